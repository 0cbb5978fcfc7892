
/-
  Who holds which buffer: what stands between the calls of RingHolds, in numbers.
-/
import Derived.Test.YtjkfjijnjkpbbaaJ2
namespace Go.Proofs.Ytjkfjijnjkpbbaa
open Go.RowKit

/-- who took how many (hl), what was given and not told (G), what was posted and not taken (P) -/
structure Hd (n : Nat) (X : Rg) (hl : Nat → Nat) (G P : List (List Int)) : Prop where
  ok : X.D.Ok
  on : X.D.r 0 = 1
  up : X.D.r 1 = 1
  ev : X.D.r 6 < 4
  sf : X.s.first < 16
  sm : X.s.ids.length ≤ 15
  cf : X.c.first < 16
  cm : X.c.ids.length ≤ 15
  h5 : X.D.r 5 = (X.s.nx : Int)
  h3 : X.D.r 3 = (X.c.nx : Int)
  h4 : ∃ j, j ≤ X.s.ids.length ∧ X.D.r 4 = (((X.s.first + j) % 16 : Nat) : Int) ∧ P.length = X.s.ids.length - j ∧ ∀ k f, P[k]? = some f → X.D.txf ((X.s.first + j + k) % 16) = f
  h2 : G.length ≤ X.c.ids.length ∧ X.D.r 2 = (((X.c.first + G.length) % 16 : Nat) : Int) ∧ (∀ k f, G[k]? = some f → X.D.held ((X.c.first + k) % 16) = true ∧ X.D.rxf ((X.c.first + k) % 16) = f ∧ X.D.bad ((X.c.first + k) % 16) = false ∧ f.length ≤ 274) ∧ ∀ k, G.length ≤ k → k < X.c.ids.length → X.D.room ((X.c.first + k) % 16) = 274
  refs : ∀ i, i < n → (X.B i).refs = hl i + X.s.ids.count (i : Int) + X.c.ids.count (i : Int)
  rs : ∀ id ∈ X.s.ids, 0 ≤ id ∧ id < n
  rc : ∀ id ∈ X.c.ids, 0 ≤ id ∧ id < n
  cb : ∀ i, i < n → (i : Int) ∈ X.c.ids → (X.B i).refs = 1 ∧ (X.B i).head = [] ∧ (X.B i).data = []

/-- buffers that are not of c may be turned as one likes, as long as the count is told -/
theorem Hd.turn {n : Nat} {X : Rg} {hl hl' : Nat → Nat} {G P : List (List Int)} (h : Hd n X hl G P) {B' : Nat → Buf} (hr : ∀ i, i < n → (B' i).refs + hl i = (X.B i).refs + hl' i) (hc : ∀ i, i < n → (i : Int) ∈ X.c.ids → B' i = X.B i) : Hd n ⟨X.D, B', X.s, X.c⟩ hl' G P := by
  refine ⟨h.ok, h.on, h.up, h.ev, h.sf, h.sm, h.cf, h.cm, h.h5, h.h3, h.h4, h.h2, fun i hi => ?_, h.rs, h.rc, fun i hi hm => ?_⟩
  · have h1 := hr i hi
    have h2 := h.refs i hi
    show (B' i).refs = hl' i + X.s.ids.count (i : Int) + X.c.ids.count (i : Int)
    omega
  · rw [show (Rg.B ⟨X.D, B', X.s, X.c⟩ i) = B' i from rfl, hc i hi hm]; exact h.cb i hi hm

/-- a free buffer is none of c's -/
theorem Hd.free {n : Nat} {X : Rg} {hl : Nat → Nat} {G P : List (List Int)} (h : Hd n X hl G P) {i : Nat} (hi : i < n) (h0 : (X.B i).refs = 0) : (i : Int) ∉ X.c.ids ∧ (i : Int) ∉ X.s.ids ∧ hl i = 0 := by
  have h1 := h.refs i hi
  refine ⟨fun hm => ?_, fun hm => ?_, by omega⟩
  · have := List.count_pos_iff.2 hm; omega
  · have := List.count_pos_iff.2 hm; omega

/-- one is taken, and says something -/
theorem Hd.gets {n : Nat} {X : Rg} {hl : Nat → Nat} {G P : List (List Int)} (h : Hd n X hl G P) {i : Nat} (hg : gt n X.B = some i) (bs : List Int) : Hd n ⟨X.D, stB n (upd X.B i ⟨1, [], []⟩) (i : Int) bs, X.s, X.c⟩ (upd hl i (hl i + 1)) G P := by
  obtain ⟨hi, h0, _⟩ := gt_some hg
  obtain ⟨n1, _, hl0⟩ := h.free hi h0
  have key : ∀ j, ((stB n (upd X.B i ⟨1, [], []⟩) (i : Int) bs) j).refs = (upd X.B i ⟨1, [], []⟩ j).refs := fun j => by
    unfold stB; split
    · by_cases e : j = i
      · subst e; simp only [Int.toNat_natCast, upd_same]
      · rw [upd_other _ _ _ _ (by simpa using e)]
    · rfl
  have oth : ∀ j, j ≠ i → (stB n (upd X.B i ⟨1, [], []⟩) (i : Int) bs) j = X.B j := fun j hj => by
    unfold stB; split
    · rw [upd_other _ _ _ _ (by simpa using hj), upd_other _ _ _ _ hj]
    · rw [upd_other _ _ _ _ hj]
  refine h.turn (fun j hj => ?_) (fun j hj hm => oth j (fun e => n1 (e ▸ hm)))
  by_cases e : j = i
  · subst e; rw [key, upd_same, upd_same, h0]; show 1 + _ = _; omega
  · rw [oth j e, upd_other _ _ _ _ e]

/-- one is let go -/
theorem Hd.lets {n : Nat} {X : Rg} {hl : Nat → Nat} {G P : List (List Int)} (h : Hd n X hl G P) {i : Nat} (hi : i < n) (h0 : 0 < hl i) : hoE n X.B (i : Int) = 0 ∧ Hd n ⟨X.D, frB n X.B (i : Int), X.s, X.c⟩ (upd hl i (hl i - 1)) G P := by
  have h1 := h.refs i hi
  have hu : usd n X.B (i : Int) = true := usd_nat hi (by omega)
  have nc : (i : Int) ∉ X.c.ids := fun hm => by
    have h2 := (h.cb i hi hm).1
    have h3 := List.count_pos_iff.2 hm
    omega
  refine ⟨by unfold hoE; rw [if_pos hu], h.turn (fun j hj => ?_) (fun j hj hm => ?_)⟩
  · unfold frB; rw [if_pos hu]
    by_cases e : j = i
    · subst e; simp only [Int.toNat_natCast, upd_same]; omega
    · rw [upd_other _ _ _ _ (by simpa using e), upd_other _ _ _ _ e]
  · unfold frB; rw [if_pos hu, upd_other _ _ _ _ (by rintro rfl; exact nc (by simpa using hm))]

/-- the device takes one -/
theorem Hd.takes {n : Nat} {X : Rg} {hl : Nat → Nat} {G P : List (List Int)} (h : Hd n X hl G P) : (P = [] ∧ X.D.tkE = 7 ∧ X.D.tkD = X.D) ∨ (∃ f P', P = f :: P' ∧ X.D.tkE = 0 ∧ X.D.tkF = f ∧ Hd n ⟨X.D.tkD, X.B, X.s, X.c⟩ hl G P') := by
  have hrun : X.D.runs = true := by unfold Dev.runs; simp [h.on, h.up]
  obtain ⟨j, hj, h4, hP, hf⟩ := h.h4
  have s16 := h.sf
  have s15 := h.sm
  have h5 := h.h5
  unfold Sd.nx at h5
  cases P with
  | nil =>
    left
    have e : X.D.r 4 = X.D.r 5 := by rw [h4, h5]; simp at hP; congr 2; omega
    have e7 : X.D.tkE = 7 := by unfold Dev.tkE; rw [if_pos hrun, if_pos e]
    exact ⟨rfl, e7, by unfold Dev.tkD; rw [e7]; rfl⟩
  | cons f P' =>
    right
    have e : ¬ X.D.r 4 = X.D.r 5 := by rw [h4, h5]; simp at hP; omega
    have e0 : X.D.tkE = 0 := by unfold Dev.tkE; rw [if_pos hrun, if_neg e]
    have ef : X.D.tkF = f := by
      unfold Dev.tkF; rw [if_pos e0, h4, Int.toNat_natCast]
      exact hf 0 f rfl
    refine ⟨f, P', rfl, e0, ef, ?_⟩
    have ed : X.D.tkD = { X.D with r := upd (upd X.D.r 4 (nxt (X.D.r 4))) 6 (evor (X.D.r 6) 2) } := by unfold Dev.tkD; rw [if_pos e0]
    have hev := h.ok.ev
    have hr : ∀ k, k ≠ 4 → k ≠ 6 → X.D.tkD.r k = X.D.r k := fun k h1 h2 => by rw [ed]; show upd (upd _ _ _) _ _ _ = _; rw [upd_other _ _ _ _ h2, upd_other _ _ _ _ h1]
    refine ⟨h.ok.tk, (hr 0 (by omega) (by omega)).trans h.on, (hr 1 (by omega) (by omega)).trans h.up, ?_, h.sf, h.sm, h.cf, h.cm, (hr 5 (by omega) (by omega)).trans h.h5, (hr 3 (by omega) (by omega)).trans h.h3, ⟨j + 1, ?_, ?_, ?_, ?_⟩, ?_, h.refs, h.rs, h.rc, h.cb⟩
    · have h6 := h.ev
      show X.D.tkD.r 6 < 4
      rw [ed]
      show upd (upd X.D.r 4 (nxt (X.D.r 4))) 6 (evor (X.D.r 6) 2) 6 < 4
      rw [upd_same]
      have : X.D.r 6 = 0 ∨ X.D.r 6 = 1 ∨ X.D.r 6 = 2 ∨ X.D.r 6 = 3 := by omega
      rcases this with e | e | e | e <;> rw [e] <;> decide
    · simp at hP; show j + 1 ≤ X.s.ids.length; omega
    · show X.D.tkD.r 4 = _
      rw [ed]
      show upd (upd X.D.r 4 (nxt (X.D.r 4))) 6 (evor (X.D.r 6) 2) 4 = _
      rw [upd_other _ _ _ _ (by omega), upd_same, h4]
      unfold nxt
      show _ = (((X.s.first + (j + 1)) % 16 : Nat) : Int)
      omega
    · simp at hP ⊢; omega
    · intro k g hg
      have := hf (k + 1) g (by simpa using hg)
      show X.D.tkD.txf _ = g
      rw [ed]
      show X.D.txf ((X.s.first + (j + 1) + k) % 16) = g
      rw [show X.s.first + (j + 1) + k = X.s.first + j + (k + 1) by omega]
      exact this
    · obtain ⟨a1, a2, a3, a4⟩ := h.h2
      refine ⟨a1, (hr 2 (by omega) (by omega)).trans a2, ?_, ?_⟩
      · intro k g hg
        have := a3 k g hg
        show X.D.tkD.held _ = true ∧ X.D.tkD.rxf _ = g ∧ X.D.tkD.bad _ = false ∧ _
        rw [ed]; exact this
      · intro k k1 k2
        show X.D.tkD.room _ = 274
        rw [ed]; exact a4 k k1 k2

/-- the device is given one -/
theorem Hd.gives {n : Nat} {X : Rg} {hl : Nat → Nat} {G P : List (List Int)} (h : Hd n X hl G P) (f : List Int) : (X.D.gvE f = 0 ∧ Hd n ⟨X.D.gvD f false, X.B, X.s, X.c⟩ hl (G ++ [f]) P) ∨ (X.D.gvE f ≠ 0 ∧ Hd n ⟨X.D.gvD f false, X.B, X.s, X.c⟩ hl G P) := by
  have hrun : X.D.runs = true := by unfold Dev.runs; simp [h.on, h.up]
  obtain ⟨a1, a2, a3, a4⟩ := h.h2
  have c16 := h.cf
  have c15 := h.cm
  have h3 := h.h3
  unfold Sd.nx at h3
  have n20 : X.D.gvE f ≠ 20 := by unfold Dev.gvE; rw [if_pos hrun]; split; omega; split <;> omega
  by_cases e0 : X.D.gvE f = 0
  · left
    refine ⟨e0, ?_⟩
    have ne : ¬ X.D.r 2 = X.D.r 3 := fun e => by unfold Dev.gvE at e0; rw [if_pos hrun, if_pos e] at e0; omega
    have nr : ¬ X.D.room (X.D.r 2).toNat < f.length := fun e => by unfold Dev.gvE at e0; rw [if_pos hrun, if_neg ne, if_pos e] at e0; omega
    have gl : G.length < X.c.ids.length := by
      rw [a2, h3] at ne
      rcases Nat.lt_or_ge G.length X.c.ids.length with h1 | h1
      · exact h1
      · exact absurd (by congr 3; omega) ne
    have rm := a4 G.length (Nat.le_refl _) gl
    have ed : X.D.gvD f false = X.D.fill f false := by unfold Dev.gvD; rw [if_neg n20, if_pos e0]
    have e2 : (X.D.r 2).toNat = (X.c.first + G.length) % 16 := by rw [a2, Int.toNat_natCast]
    rw [e2, rm] at nr
    have hev := h.ok.ev
    have hr : ∀ k, k ≠ 2 → k ≠ 6 → (X.D.gvD f false).r k = X.D.r k := fun k h1 h2 => by rw [ed]; show upd (upd _ _ _) _ _ _ = _; rw [upd_other _ _ _ _ h2, upd_other _ _ _ _ h1]
    refine ⟨h.ok.gv _ _, (hr 0 (by omega) (by omega)).trans h.on, (hr 1 (by omega) (by omega)).trans h.up, ?_, h.sf, h.sm, h.cf, h.cm, (hr 5 (by omega) (by omega)).trans h.h5, (hr 3 (by omega) (by omega)).trans h.h3, ?_, ⟨?_, ?_, ?_, ?_⟩, h.refs, h.rs, h.rc, h.cb⟩
    · have h6 := h.ev
      show (X.D.gvD f false).r 6 < 4
      rw [ed]
      show upd (upd X.D.r 2 (nxt (X.D.r 2))) 6 (evor (X.D.r 6) 1) 6 < 4
      rw [upd_same]
      have : X.D.r 6 = 0 ∨ X.D.r 6 = 1 ∨ X.D.r 6 = 2 ∨ X.D.r 6 = 3 := by omega
      rcases this with e | e | e | e <;> rw [e] <;> decide
    · obtain ⟨j, b1, b2, b3, b4⟩ := h.h4
      refine ⟨j, b1, (hr 4 (by omega) (by omega)).trans b2, b3, fun k g hg => ?_⟩
      show (X.D.gvD f false).txf _ = g
      rw [ed]; exact b4 k g hg
    · simp; omega
    · show (X.D.gvD f false).r 2 = _
      rw [ed]
      show upd (upd X.D.r 2 (nxt (X.D.r 2))) 6 (evor (X.D.r 6) 1) 2 = _
      rw [upd_other _ _ _ _ (by omega), upd_same, a2]
      unfold nxt
      rw [List.length_append]
      show _ = (((X.c.first + (G.length + 1)) % 16 : Nat) : Int)
      omega
    · intro k g hg
      show (X.D.gvD f false).held _ = true ∧ (X.D.gvD f false).rxf _ = g ∧ (X.D.gvD f false).bad _ = false ∧ _
      rw [ed]
      show upd X.D.held (X.D.r 2).toNat true _ = true ∧ upd X.D.rxf (X.D.r 2).toNat f _ = g ∧ upd X.D.bad (X.D.r 2).toNat false _ = false ∧ _
      rw [e2]
      by_cases hk : k < G.length
      · rw [List.getElem?_append_left hk] at hg
        have ne2 : (X.c.first + k) % 16 ≠ (X.c.first + G.length) % 16 := by omega
        rw [upd_other _ _ _ _ ne2, upd_other _ _ _ _ ne2, upd_other _ _ _ _ ne2]
        exact a3 k g hg
      · have hk2 : k < (G ++ [f]).length := (List.getElem?_eq_some_iff.1 hg).1
        simp at hk2
        obtain rfl : k = G.length := by omega
        rw [List.getElem?_append_right (by omega), Nat.sub_self] at hg
        have hg : f = g := by simpa using hg
        subst hg
        rw [upd_same, upd_same, upd_same]
        exact ⟨rfl, rfl, rfl, by omega⟩
    · intro k k1 k2
      show (X.D.gvD f false).room _ = 274
      rw [ed]
      simp at k1
      exact a4 k (by omega) k2
  · right
    refine ⟨e0, ?_⟩
    have ed : X.D.gvD f false = X.D.miss := by unfold Dev.gvD; rw [if_neg n20, if_neg e0]
    have hr : ∀ k, k ≠ 7 → (X.D.gvD f false).r k = X.D.r k := fun k h1 => by rw [ed]; show upd _ _ _ _ = _; rw [upd_other _ _ _ _ h1]
    refine ⟨h.ok.gv _ _, (hr 0 (by omega)).trans h.on, (hr 1 (by omega)).trans h.up, by show (X.D.gvD f false).r 6 < 4; rw [hr 6 (by omega)]; exact h.ev, h.sf, h.sm, h.cf, h.cm, (hr 5 (by omega)).trans h.h5, (hr 3 (by omega)).trans h.h3, ?_, ⟨a1, (hr 2 (by omega)).trans a2, ?_, ?_⟩, h.refs, h.rs, h.rc, h.cb⟩
    · obtain ⟨j, b1, b2, b3, b4⟩ := h.h4
      refine ⟨j, b1, (hr 4 (by omega)).trans b2, b3, fun k g hg => ?_⟩
      show (X.D.gvD f false).txf _ = g
      rw [ed]; exact b4 k g hg
    · intro k g hg
      show (X.D.gvD f false).held _ = true ∧ (X.D.gvD f false).rxf _ = g ∧ (X.D.gvD f false).bad _ = false ∧ _
      rw [ed]; exact a3 k g hg
    · intro k k1 k2
      show (X.D.gvD f false).room _ = 274
      rw [ed]; exact a4 k k1 k2
end Go.Proofs.Ytjkfjijnjkpbbaa
