
/-
  Who holds which buffer: what stands between the calls of RingHolds, in numbers. Send, fill and Poll: who holds which buffer. A beginning, and Poll: who holds which buffer.
-/
import Derived.Test.YtjkfjijnjkpbbaaJ2
namespace Go.Proofs.Ytjkfjijnjkpbbaa
open Go.RowKit

/-- who took how many (hl), what was given and not told (G), what was posted and not taken (P) -/
structure Hd (n : Nat) (X : Rg) (hl : Nat → Nat) (G P : List (List Int)) : Prop where
  ok : X.D.Ok
  on : X.D.r 0 = 1
  up : X.D.r 1 = 1
  ev : X.D.r 6 < 4
  sf : X.s.first < 16
  sm : X.s.ids.length ≤ 15
  cf : X.c.first < 16
  cm : X.c.ids.length ≤ 15
  h5 : X.D.r 5 = (X.s.nx : Int)
  h3 : X.D.r 3 = (X.c.nx : Int)
  h4 : ∃ j, j ≤ X.s.ids.length ∧ X.D.r 4 = (((X.s.first + j) % 16 : Nat) : Int) ∧ P.length = X.s.ids.length - j ∧ ∀ k f, P[k]? = some f → X.D.txf ((X.s.first + j + k) % 16) = f
  h2 : G.length ≤ X.c.ids.length ∧ X.D.r 2 = (((X.c.first + G.length) % 16 : Nat) : Int) ∧ (∀ k f, G[k]? = some f → X.D.held ((X.c.first + k) % 16) = true ∧ X.D.rxf ((X.c.first + k) % 16) = f ∧ X.D.bad ((X.c.first + k) % 16) = false ∧ f.length ≤ 274) ∧ ∀ k, G.length ≤ k → k < X.c.ids.length → X.D.room ((X.c.first + k) % 16) = 274
  refs : ∀ i, i < n → (X.B i).refs = hl i + X.s.ids.count (i : Int) + X.c.ids.count (i : Int)
  rs : ∀ id ∈ X.s.ids, 0 ≤ id ∧ id < n
  rc : ∀ id ∈ X.c.ids, 0 ≤ id ∧ id < n
  cb : ∀ i, i < n → (i : Int) ∈ X.c.ids → (X.B i).refs = 1 ∧ (X.B i).head = [] ∧ (X.B i).data = []

/-- buffers that are not of c may be turned as one likes, as long as the count is told -/
theorem Hd.turn {n : Nat} {X : Rg} {hl hl' : Nat → Nat} {G P : List (List Int)} (h : Hd n X hl G P) {B' : Nat → Buf} (hr : ∀ i, i < n → (B' i).refs + hl i = (X.B i).refs + hl' i) (hc : ∀ i, i < n → (i : Int) ∈ X.c.ids → B' i = X.B i) : Hd n ⟨X.D, B', X.s, X.c⟩ hl' G P := by
  refine ⟨h.ok, h.on, h.up, h.ev, h.sf, h.sm, h.cf, h.cm, h.h5, h.h3, h.h4, h.h2, fun i hi => ?_, h.rs, h.rc, fun i hi hm => ?_⟩
  · have h1 := hr i hi
    have h2 := h.refs i hi
    show (B' i).refs = hl' i + X.s.ids.count (i : Int) + X.c.ids.count (i : Int)
    omega
  · rw [show (Rg.B ⟨X.D, B', X.s, X.c⟩ i) = B' i from rfl, hc i hi hm]; exact h.cb i hi hm

/-- a free buffer is none of c's -/
theorem Hd.free {n : Nat} {X : Rg} {hl : Nat → Nat} {G P : List (List Int)} (h : Hd n X hl G P) {i : Nat} (hi : i < n) (h0 : (X.B i).refs = 0) : (i : Int) ∉ X.c.ids ∧ (i : Int) ∉ X.s.ids ∧ hl i = 0 := by
  have h1 := h.refs i hi
  refine ⟨fun hm => ?_, fun hm => ?_, by omega⟩
  · have := List.count_pos_iff.2 hm; omega
  · have := List.count_pos_iff.2 hm; omega

/-- one is taken, and says something -/
theorem Hd.gets {n : Nat} {X : Rg} {hl : Nat → Nat} {G P : List (List Int)} (h : Hd n X hl G P) {i : Nat} (hg : gt n X.B = some i) (bs : List Int) : Hd n ⟨X.D, stB n (upd X.B i ⟨1, [], []⟩) (i : Int) bs, X.s, X.c⟩ (upd hl i (hl i + 1)) G P := by
  obtain ⟨hi, h0, _⟩ := gt_some hg
  obtain ⟨n1, _, hl0⟩ := h.free hi h0
  have key : ∀ j, ((stB n (upd X.B i ⟨1, [], []⟩) (i : Int) bs) j).refs = (upd X.B i ⟨1, [], []⟩ j).refs := fun j => by
    unfold stB; split
    · by_cases e : j = i
      · subst e; simp only [Int.toNat_natCast, upd_same]
      · rw [upd_other _ _ _ _ (by simpa using e)]
    · rfl
  have oth : ∀ j, j ≠ i → (stB n (upd X.B i ⟨1, [], []⟩) (i : Int) bs) j = X.B j := fun j hj => by
    unfold stB; split
    · rw [upd_other _ _ _ _ (by simpa using hj), upd_other _ _ _ _ hj]
    · rw [upd_other _ _ _ _ hj]
  refine h.turn (fun j hj => ?_) (fun j hj hm => oth j (fun e => n1 (e ▸ hm)))
  by_cases e : j = i
  · subst e; rw [key, upd_same, upd_same, h0]; show 1 + _ = _; omega
  · rw [oth j e, upd_other _ _ _ _ e]

/-- one is let go -/
theorem Hd.lets {n : Nat} {X : Rg} {hl : Nat → Nat} {G P : List (List Int)} (h : Hd n X hl G P) {i : Nat} (hi : i < n) (h0 : 0 < hl i) : hoE n X.B (i : Int) = 0 ∧ Hd n ⟨X.D, frB n X.B (i : Int), X.s, X.c⟩ (upd hl i (hl i - 1)) G P := by
  have h1 := h.refs i hi
  have hu : usd n X.B (i : Int) = true := usd_nat hi (by omega)
  have nc : (i : Int) ∉ X.c.ids := fun hm => by
    have h2 := (h.cb i hi hm).1
    have h3 := List.count_pos_iff.2 hm
    omega
  refine ⟨by unfold hoE; rw [if_pos hu], h.turn (fun j hj => ?_) (fun j hj hm => ?_)⟩
  · unfold frB; rw [if_pos hu]
    by_cases e : j = i
    · subst e; simp only [Int.toNat_natCast, upd_same]; omega
    · rw [upd_other _ _ _ _ (by simpa using e), upd_other _ _ _ _ e]
  · unfold frB; rw [if_pos hu, upd_other _ _ _ _ (by rintro rfl; exact nc (by simpa using hm))]

/-- the device takes one -/
theorem Hd.takes {n : Nat} {X : Rg} {hl : Nat → Nat} {G P : List (List Int)} (h : Hd n X hl G P) : (P = [] ∧ X.D.tkE = 7 ∧ X.D.tkD = X.D) ∨ (∃ f P', P = f :: P' ∧ X.D.tkE = 0 ∧ X.D.tkF = f ∧ Hd n ⟨X.D.tkD, X.B, X.s, X.c⟩ hl G P') := by
  have hrun : X.D.runs = true := by unfold Dev.runs; simp [h.on, h.up]
  obtain ⟨j, hj, h4, hP, hf⟩ := h.h4
  have s16 := h.sf
  have s15 := h.sm
  have h5 := h.h5
  unfold Sd.nx at h5
  cases P with
  | nil =>
    left
    have e : X.D.r 4 = X.D.r 5 := by rw [h4, h5]; simp at hP; congr 2; omega
    have e7 : X.D.tkE = 7 := by unfold Dev.tkE; rw [if_pos hrun, if_pos e]
    exact ⟨rfl, e7, by unfold Dev.tkD; rw [e7]; rfl⟩
  | cons f P' =>
    right
    have e : ¬ X.D.r 4 = X.D.r 5 := by rw [h4, h5]; simp at hP; omega
    have e0 : X.D.tkE = 0 := by unfold Dev.tkE; rw [if_pos hrun, if_neg e]
    have ef : X.D.tkF = f := by
      unfold Dev.tkF; rw [if_pos e0, h4, Int.toNat_natCast]
      exact hf 0 f rfl
    refine ⟨f, P', rfl, e0, ef, ?_⟩
    have ed : X.D.tkD = { X.D with r := upd (upd X.D.r 4 (nxt (X.D.r 4))) 6 (evor (X.D.r 6) 2) } := by unfold Dev.tkD; rw [if_pos e0]
    have hev := h.ok.ev
    have hr : ∀ k, k ≠ 4 → k ≠ 6 → X.D.tkD.r k = X.D.r k := fun k h1 h2 => by rw [ed]; show upd (upd _ _ _) _ _ _ = _; rw [upd_other _ _ _ _ h2, upd_other _ _ _ _ h1]
    refine ⟨h.ok.tk, (hr 0 (by omega) (by omega)).trans h.on, (hr 1 (by omega) (by omega)).trans h.up, ?_, h.sf, h.sm, h.cf, h.cm, (hr 5 (by omega) (by omega)).trans h.h5, (hr 3 (by omega) (by omega)).trans h.h3, ⟨j + 1, ?_, ?_, ?_, ?_⟩, ?_, h.refs, h.rs, h.rc, h.cb⟩
    · have h6 := h.ev
      show X.D.tkD.r 6 < 4
      rw [ed]
      show upd (upd X.D.r 4 (nxt (X.D.r 4))) 6 (evor (X.D.r 6) 2) 6 < 4
      rw [upd_same]
      have : X.D.r 6 = 0 ∨ X.D.r 6 = 1 ∨ X.D.r 6 = 2 ∨ X.D.r 6 = 3 := by omega
      rcases this with e | e | e | e <;> rw [e] <;> decide
    · simp at hP; show j + 1 ≤ X.s.ids.length; omega
    · show X.D.tkD.r 4 = _
      rw [ed]
      show upd (upd X.D.r 4 (nxt (X.D.r 4))) 6 (evor (X.D.r 6) 2) 4 = _
      rw [upd_other _ _ _ _ (by omega), upd_same, h4]
      unfold nxt
      show _ = (((X.s.first + (j + 1)) % 16 : Nat) : Int)
      omega
    · simp at hP ⊢; omega
    · intro k g hg
      have := hf (k + 1) g (by simpa using hg)
      show X.D.tkD.txf _ = g
      rw [ed]
      show X.D.txf ((X.s.first + (j + 1) + k) % 16) = g
      rw [show X.s.first + (j + 1) + k = X.s.first + j + (k + 1) by omega]
      exact this
    · obtain ⟨a1, a2, a3, a4⟩ := h.h2
      refine ⟨a1, (hr 2 (by omega) (by omega)).trans a2, ?_, ?_⟩
      · intro k g hg
        have := a3 k g hg
        show X.D.tkD.held _ = true ∧ X.D.tkD.rxf _ = g ∧ X.D.tkD.bad _ = false ∧ _
        rw [ed]; exact this
      · intro k k1 k2
        show X.D.tkD.room _ = 274
        rw [ed]; exact a4 k k1 k2

/-- the device is given one -/
theorem Hd.gives {n : Nat} {X : Rg} {hl : Nat → Nat} {G P : List (List Int)} (h : Hd n X hl G P) (f : List Int) : (X.D.gvE f = 0 ∧ Hd n ⟨X.D.gvD f false, X.B, X.s, X.c⟩ hl (G ++ [f]) P) ∨ (X.D.gvE f ≠ 0 ∧ Hd n ⟨X.D.gvD f false, X.B, X.s, X.c⟩ hl G P) := by
  have hrun : X.D.runs = true := by unfold Dev.runs; simp [h.on, h.up]
  obtain ⟨a1, a2, a3, a4⟩ := h.h2
  have c16 := h.cf
  have c15 := h.cm
  have h3 := h.h3
  unfold Sd.nx at h3
  have n20 : X.D.gvE f ≠ 20 := by unfold Dev.gvE; rw [if_pos hrun]; split; omega; split <;> omega
  by_cases e0 : X.D.gvE f = 0
  · left
    refine ⟨e0, ?_⟩
    have ne : ¬ X.D.r 2 = X.D.r 3 := fun e => by unfold Dev.gvE at e0; rw [if_pos hrun, if_pos e] at e0; omega
    have nr : ¬ X.D.room (X.D.r 2).toNat < f.length := fun e => by unfold Dev.gvE at e0; rw [if_pos hrun, if_neg ne, if_pos e] at e0; omega
    have gl : G.length < X.c.ids.length := by
      rw [a2, h3] at ne
      rcases Nat.lt_or_ge G.length X.c.ids.length with h1 | h1
      · exact h1
      · exact absurd (by congr 3; omega) ne
    have rm := a4 G.length (Nat.le_refl _) gl
    have ed : X.D.gvD f false = X.D.fill f false := by unfold Dev.gvD; rw [if_neg n20, if_pos e0]
    have e2 : (X.D.r 2).toNat = (X.c.first + G.length) % 16 := by rw [a2, Int.toNat_natCast]
    rw [e2, rm] at nr
    have hev := h.ok.ev
    have hr : ∀ k, k ≠ 2 → k ≠ 6 → (X.D.gvD f false).r k = X.D.r k := fun k h1 h2 => by rw [ed]; show upd (upd _ _ _) _ _ _ = _; rw [upd_other _ _ _ _ h2, upd_other _ _ _ _ h1]
    refine ⟨h.ok.gv _ _, (hr 0 (by omega) (by omega)).trans h.on, (hr 1 (by omega) (by omega)).trans h.up, ?_, h.sf, h.sm, h.cf, h.cm, (hr 5 (by omega) (by omega)).trans h.h5, (hr 3 (by omega) (by omega)).trans h.h3, ?_, ⟨?_, ?_, ?_, ?_⟩, h.refs, h.rs, h.rc, h.cb⟩
    · have h6 := h.ev
      show (X.D.gvD f false).r 6 < 4
      rw [ed]
      show upd (upd X.D.r 2 (nxt (X.D.r 2))) 6 (evor (X.D.r 6) 1) 6 < 4
      rw [upd_same]
      have : X.D.r 6 = 0 ∨ X.D.r 6 = 1 ∨ X.D.r 6 = 2 ∨ X.D.r 6 = 3 := by omega
      rcases this with e | e | e | e <;> rw [e] <;> decide
    · obtain ⟨j, b1, b2, b3, b4⟩ := h.h4
      refine ⟨j, b1, (hr 4 (by omega) (by omega)).trans b2, b3, fun k g hg => ?_⟩
      show (X.D.gvD f false).txf _ = g
      rw [ed]; exact b4 k g hg
    · simp; omega
    · show (X.D.gvD f false).r 2 = _
      rw [ed]
      show upd (upd X.D.r 2 (nxt (X.D.r 2))) 6 (evor (X.D.r 6) 1) 2 = _
      rw [upd_other _ _ _ _ (by omega), upd_same, a2]
      unfold nxt
      rw [List.length_append]
      show _ = (((X.c.first + (G.length + 1)) % 16 : Nat) : Int)
      omega
    · intro k g hg
      show (X.D.gvD f false).held _ = true ∧ (X.D.gvD f false).rxf _ = g ∧ (X.D.gvD f false).bad _ = false ∧ _
      rw [ed]
      show upd X.D.held (X.D.r 2).toNat true _ = true ∧ upd X.D.rxf (X.D.r 2).toNat f _ = g ∧ upd X.D.bad (X.D.r 2).toNat false _ = false ∧ _
      rw [e2]
      by_cases hk : k < G.length
      · rw [List.getElem?_append_left hk] at hg
        have ne2 : (X.c.first + k) % 16 ≠ (X.c.first + G.length) % 16 := by omega
        rw [upd_other _ _ _ _ ne2, upd_other _ _ _ _ ne2, upd_other _ _ _ _ ne2]
        exact a3 k g hg
      · have hk2 : k < (G ++ [f]).length := (List.getElem?_eq_some_iff.1 hg).1
        simp at hk2
        obtain rfl : k = G.length := by omega
        rw [List.getElem?_append_right (by omega), Nat.sub_self] at hg
        have hg : f = g := by simpa using hg
        subst hg
        rw [upd_same, upd_same, upd_same]
        exact ⟨rfl, rfl, rfl, by omega⟩
    · intro k k1 k2
      show (X.D.gvD f false).room _ = 274
      rw [ed]
      simp at k1
      exact a4 k (by omega) k2
  · right
    refine ⟨e0, ?_⟩
    have ed : X.D.gvD f false = X.D.miss := by unfold Dev.gvD; rw [if_neg n20, if_neg e0]
    have hr : ∀ k, k ≠ 7 → (X.D.gvD f false).r k = X.D.r k := fun k h1 => by rw [ed]; show upd _ _ _ _ = _; rw [upd_other _ _ _ _ h1]
    refine ⟨h.ok.gv _ _, (hr 0 (by omega)).trans h.on, (hr 1 (by omega)).trans h.up, by show (X.D.gvD f false).r 6 < 4; rw [hr 6 (by omega)]; exact h.ev, h.sf, h.sm, h.cf, h.cm, (hr 5 (by omega)).trans h.h5, (hr 3 (by omega)).trans h.h3, ?_, ⟨a1, (hr 2 (by omega)).trans a2, ?_, ?_⟩, h.refs, h.rs, h.rc, h.cb⟩
    · obtain ⟨j, b1, b2, b3, b4⟩ := h.h4
      refine ⟨j, b1, (hr 4 (by omega)).trans b2, b3, fun k g hg => ?_⟩
      show (X.D.gvD f false).txf _ = g
      rw [ed]; exact b4 k g hg
    · intro k g hg
      show (X.D.gvD f false).held _ = true ∧ (X.D.gvD f false).rxf _ = g ∧ (X.D.gvD f false).bad _ = false ∧ _
      rw [ed]; exact a3 k g hg
    · intro k k1 k2
      show (X.D.gvD f false).room _ = 274
      rw [ed]; exact a4 k k1 k2

theorem wr5 (D : Dev) (v : Nat) (hv : v < 16) : D.wrD 5 (v : Int) = D.post (v : Int) := by
  have hp : place (v : Int) = true := by unfold place; simp; omega
  unfold Dev.wrD
  simp [hp]
theorem wr3 (D : Dev) (v : Nat) (hv : v < 16) : D.wrD 3 (v : Int) = { D with r := upd D.r 3 (v : Int) } := by
  have hp : place (v : Int) = true := by unfold place; simp; omega
  unfold Dev.wrD
  simp [hp]

/-- Send -/
theorem Hd.sends {n : Nat} {X : Rg} {hl : Nat → Nat} {G P : List (List Int)} (h : Hd n X hl G P) (id : Int) : (sdE n X.D X.B X.s id = 0 ∧ usd n X.B id = true ∧ Hd n ⟨sdD n X.D X.B X.s id, sdB n X.D X.B X.s id, sdS n X.D X.B X.s id, X.c⟩ hl G (P ++ [fr X.B id])) ∨ (sdE n X.D X.B X.s id ≠ 0 ∧ Hd n ⟨sdD n X.D X.B X.s id, sdB n X.D X.B X.s id, sdS n X.D X.B X.s id, X.c⟩ hl G P) := by
  by_cases e0 : sdE n X.D X.B X.s id = 0
  · left
    have hu : usd n X.B id = true := by
      cases hu : usd n X.B id with
      | true => rfl
      | false => unfold sdE at e0; rw [hu, if_neg (by simp)] at e0; omega
    refine ⟨e0, hu, ?_⟩
    unfold sdD sdB sdS
    rw [if_pos e0, if_pos e0, if_pos e0]
    obtain ⟨i, rfl, hi, hr⟩ := usd_yes hu
    unfold sdE at e0
    rw [if_pos hu, if_neg (by rw [h.up]; omega)] at e0
    have hs15 : ¬ X.s.ids.length = 15 := fun e => by rw [if_pos e] at e0; omega
    rw [if_neg hs15] at e0
    have s16 := h.sf
    have s15 := h.sm
    have nx16 : X.s.nx < 16 := Nat.mod_lt _ (by omega)
    have px16 : (X.s.put (i : Int)).nx < 16 := Nat.mod_lt _ (by omega)
    have fne : (fr X.B (i : Int)).length ≠ 0 := fun e => by
      unfold Dev.stE at e0
      rw [if_pos e] at e0
      split at e0 <;> omega
    have nc : (i : Int) ∉ X.c.ids := fun hm => by
      obtain ⟨_, q1, q2⟩ := h.cb i hi hm
      apply fne
      unfold fr
      simp only [Int.toNat_natCast, q1, q2]
      rfl
    have ed : (X.D.stD X.s.nx (fr X.B (i : Int))).wrD 5 ((X.s.put (i : Int)).nx : Int) = Dev.post { X.D with txf := upd X.D.txf X.s.nx (fr X.B (i : Int)) } ((X.s.put (i : Int)).nx : Int) := by
      rw [wr5 _ _ px16]
      unfold Dev.stD
      rw [if_pos e0, Int.toNat_natCast]
    have okD : ((X.D.stD X.s.nx (fr X.B (i : Int))).wrD 5 ((X.s.put (i : Int)).nx : Int)).Ok := (h.ok.st _ _).wr _ _
    rw [ed] at okD ⊢
    have hB : hoB n X.B (i : Int) = upd X.B i { X.B i with refs := (X.B i).refs + 1 } := by unfold hoB; rw [if_pos hu]; simp only [Int.toNat_natCast]
    have hrk : ∀ k, k ≠ 5 → (Dev.post { X.D with txf := upd X.D.txf X.s.nx (fr X.B (i : Int)) } ((X.s.put (i : Int)).nx : Int)).r k = X.D.r k := fun k hk => upd_other _ _ _ _ hk
    obtain ⟨j, b1, b2, b3, b4⟩ := h.h4
    obtain ⟨a1, a2, a3, a4⟩ := h.h2
    have pl : (X.s.put (i : Int)).ids.length = X.s.ids.length + 1 := by simp [Sd.put]
    refine ⟨okD, (hrk 0 (by omega)).trans h.on, (hrk 1 (by omega)).trans h.up, by show Dev.r _ 6 < 4; rw [hrk 6 (by omega)]; exact h.ev, s16, by show (X.s.put (i : Int)).ids.length ≤ 15; rw [pl]; omega, h.cf, h.cm, (by show upd X.D.r 5 ((X.s.put (i : Int)).nx : Int) 5 = _; rw [upd_same]), (hrk 3 (by omega)).trans h.h3, ⟨j, ?_, (hrk 4 (by omega)).trans b2, ?_, ?_⟩, ⟨a1, (hrk 2 (by omega)).trans a2, a3, a4⟩, fun k hk => ?_, fun x hx => ?_, h.rc, fun k hk hm => ?_⟩
    · show j ≤ (X.s.put (i : Int)).ids.length; rw [pl]; omega
    · show (P ++ [_]).length = (X.s.put (i : Int)).ids.length - j
      rw [pl, List.length_append, b3]; simp; omega
    · intro k f hf
      show upd X.D.txf X.s.nx (fr X.B (i : Int)) ((X.s.first + j + k) % 16) = f
      by_cases hk : k < P.length
      · rw [List.getElem?_append_left hk] at hf
        rw [upd_other _ _ _ _ (by unfold Sd.nx; omega)]
        exact b4 k f hf
      · have hk2 : k < (P ++ [fr X.B (i : Int)]).length := (List.getElem?_eq_some_iff.1 hf).1
        simp at hk2
        obtain rfl : k = P.length := by omega
        rw [List.getElem?_append_right (by omega), Nat.sub_self] at hf
        have hf : fr X.B (i : Int) = f := by simpa using hf
        rw [show (X.s.first + j + P.length) % 16 = X.s.nx by unfold Sd.nx; rw [b3]; congr 1; omega, upd_same]
        exact hf
    · show (hoB n X.B (i : Int) k).refs = hl k + (X.s.put (i : Int)).ids.count (k : Int) + X.c.ids.count (k : Int)
      have hk1 := h.refs k hk
      rw [hB]
      unfold Sd.put
      rw [List.count_append]
      by_cases e : k = i
      · subst e
        rw [upd_same]
        show (X.B k).refs + 1 = _
        rw [hk1, List.count_singleton_self]; omega
      · rw [upd_other _ _ _ _ e, hk1, List.count_singleton, if_neg (by simp; omega)]; omega
    · have hx : x ∈ X.s.ids ++ [(i : Int)] := hx
      rcases List.mem_append.1 hx with h1 | h1
      · exact h.rs x h1
      · rw [List.mem_singleton.1 h1]; omega
    · show (hoB n X.B (i : Int) k).refs = 1 ∧ (hoB n X.B (i : Int) k).head = [] ∧ (hoB n X.B (i : Int) k).data = []
      rw [hB, upd_other _ _ _ _ (by rintro rfl; exact nc hm)]
      exact h.cb k hk hm
  · right
    refine ⟨e0, ?_⟩
    unfold sdD sdB sdS
    rw [if_neg e0, if_neg e0, if_neg e0]
    exact h

/-- the device as it is when its tail stands behind what lies ready -/
def Fl.fin (x : Fl) : Dev := { x.D with r := upd x.D.r 3 (x.c.nx : Int) }

/-- one more buffer lies ready -/
theorem Hd.fillS {n : Nat} {x y : Fl} {s : Sd} {hl : Nat → Nat} {P : List (List Int)} (h : Hd n ⟨x.fin, x.B, s, x.c⟩ hl [] P) (hy : flS n x = some y) {m0 : Nat} (hm0 : m0 ≤ x.c.ids.length) (h2 : x.D.r 2 = (x.c.first : Int)) (h3 : x.D.r 3 = (((x.c.first + m0) % 16 : Nat) : Int)) :
    Hd n ⟨y.fin, y.B, s, y.c⟩ hl [] P ∧ y.D.r = x.D.r ∧ y.c.first = x.c.first ∧ x.c.ids.length ≤ y.c.ids.length ∧ ∀ i, (x.B i).refs ≠ 0 → y.B i = x.B i := by
  unfold flS at hy
  split at hy
  · rename_i hlt
    split at hy
    · cases hy
    · rename_i i hg
      cases hy
      obtain ⟨hi, h0, _⟩ := gt_some hg
      obtain ⟨nc, ns, hl0⟩ := h.free hi h0
      have c16 : x.c.first < 16 := h.cf
      have nx16 : x.c.nx < 16 := Nat.mod_lt _ (by omega)
      have pl : (x.c.put (i : Int)).ids.length = x.c.ids.length + 1 := by simp [Sd.put]
      have px16 : (x.c.put (i : Int)).nx < 16 := Nat.mod_lt _ (by omega)
      have se : x.D.srE (x.c.nx : Int) 274 = 0 := srE_ok c16 hlt hm0 h2 h3
      have ed : x.D.srD (x.c.nx : Int) 274 = { x.D with room := upd x.D.room x.c.nx 274, held := upd x.D.held x.c.nx false, rxf := upd x.D.rxf x.c.nx [], bad := upd x.D.bad x.c.nx false } := by unfold Dev.srD; rw [if_pos se]; simp only [Int.toNat_natCast]
      refine ⟨?_, srD_r _ _ _, rfl, by show _ ≤ (x.c.put (i : Int)).ids.length; rw [pl]; omega, fun k hk => ?_⟩
      · obtain ⟨j, b1, b2, b3, b4⟩ := h.h4
        obtain ⟨a1, a2, a3, a4⟩ := h.h2
        have okD : (Fl.fin ⟨x.D.srD (x.c.nx : Int) 274, upd x.B i ⟨1, [], []⟩, x.c.put (i : Int)⟩).Ok := by
          have o1 := (h.ok.sr (x.c.nx : Int) 274)
          have o2 : Dev.Ok (x.fin.srD (x.c.nx : Int) 274) := o1
          have ok1 := h.ok
          unfold Fl.fin
          show Dev.Ok { x.D.srD (x.c.nx : Int) 274 with r := upd (x.D.srD (x.c.nx : Int) 274).r 3 ((x.c.put (i : Int)).nx : Int) }
          rw [ed]
          show Dev.Ok { x.D with r := upd x.D.r 3 ((x.c.put (i : Int)).nx : Int), room := upd x.D.room x.c.nx 274, held := upd x.D.held x.c.nx false, rxf := upd x.D.rxf x.c.nx [], bad := upd x.D.bad x.c.nx false }
          have k1 := ok1.ctl
          have k2 := ok1.link
          have k3 := ok1.ring
          have k4 := ok1.ev
          have k5 := ok1.txf
          have k6 := ok1.room
          have k7 := ok1.rxf
          refine ⟨k1, k2, fun k q1 q2 => ?_, k4, k5, fun k q => ?_, fun k q => ?_⟩
          · show 0 ≤ upd x.D.r 3 _ k ∧ upd x.D.r 3 _ k ≤ 15
            by_cases e : k = 3
            · subst e; rw [upd_same]; omega
            · rw [upd_other _ _ _ _ e]
              have := k3 k q1 q2
              have e2 : upd x.D.r 3 (x.c.nx : Int) k = x.D.r k := upd_other _ _ _ _ e
              rw [← e2]; exact this
          · show upd x.D.room x.c.nx 274 k ≤ 65535
            by_cases e : k = x.c.nx
            · subst e; rw [upd_same]; omega
            · rw [upd_other _ _ _ _ e]; exact k6 k q
          · show (upd x.D.rxf x.c.nx [] k).length ≤ 65535
            by_cases e : k = x.c.nx
            · subst e; rw [upd_same]; simp
            · rw [upd_other _ _ _ _ e]; exact k7 k q
        have er : (Fl.fin ⟨x.D.srD (x.c.nx : Int) 274, upd x.B i ⟨1, [], []⟩, x.c.put (i : Int)⟩).r = upd x.D.r 3 ((x.c.put (i : Int)).nx : Int) := by show upd (x.D.srD (x.c.nx : Int) 274).r 3 _ = _; rw [srD_r]
        have hrk : ∀ k, k ≠ 3 → (Fl.fin ⟨x.D.srD (x.c.nx : Int) 274, upd x.B i ⟨1, [], []⟩, x.c.put (i : Int)⟩).r k = x.fin.r k := fun k hk => by rw [er, upd_other _ _ _ _ hk]; exact (upd_other _ _ _ _ hk).symm
        refine ⟨okD, (hrk 0 (by omega)).trans h.on, (hrk 1 (by omega)).trans h.up, by show Dev.r _ 6 < 4; rw [hrk 6 (by omega)]; exact h.ev, h.sf, h.sm, c16, by show (x.c.put (i : Int)).ids.length ≤ 15; rw [pl]; omega, (hrk 5 (by omega)).trans h.h5, by show Dev.r _ 3 = _; rw [er, upd_same], ⟨j, b1, (hrk 4 (by omega)).trans b2, b3, fun k f hf => ?_⟩, ⟨by simp, (hrk 2 (by omega)).trans a2, fun k f hf => by simp at hf, fun k k1 k2 => ?_⟩, fun k hk => ?_, h.rs, fun z hz => ?_, fun k hk hm => ?_⟩
        · show (x.D.srD (x.c.nx : Int) 274).txf _ = f
          rw [ed]; exact b4 k f hf
        · show (x.D.srD (x.c.nx : Int) 274).room ((x.c.first + k) % 16) = 274
          rw [ed]
          show upd x.D.room x.c.nx 274 _ = 274
          have k2 : k < (x.c.put (i : Int)).ids.length := k2
          rw [pl] at k2
          by_cases e : k = x.c.ids.length
          · subst e; rw [show (x.c.first + x.c.ids.length) % 16 = x.c.nx from rfl, upd_same]
          · rw [upd_other _ _ _ _ (by unfold Sd.nx; omega)]
            exact a4 k (by simp) (show k < x.c.ids.length by omega)
        · show (upd x.B i ⟨1, [], []⟩ k).refs = hl k + s.ids.count (k : Int) + (x.c.put (i : Int)).ids.count (k : Int)
          have hk1 : (x.B k).refs = hl k + s.ids.count (k : Int) + x.c.ids.count (k : Int) := h.refs k hk
          unfold Sd.put
          rw [List.count_append]
          by_cases e : k = i
          · subst e
            rw [upd_same, List.count_singleton_self]
            have h0' : (x.B k).refs = 0 := h0
            show 1 = _
            omega
          · rw [upd_other _ _ _ _ e, hk1, List.count_singleton, if_neg (by simp; omega)]; omega
        · have hz : z ∈ x.c.ids ++ [(i : Int)] := hz
          rcases List.mem_append.1 hz with q | q
          · exact h.rc z q
          · rw [List.mem_singleton.1 q]; omega
        · show (upd x.B i ⟨1, [], []⟩ k).refs = 1 ∧ (upd x.B i ⟨1, [], []⟩ k).head = [] ∧ (upd x.B i ⟨1, [], []⟩ k).data = []
          by_cases e : k = i
          · subst e; rw [upd_same]; exact ⟨rfl, rfl, rfl⟩
          · have hm : (k : Int) ∈ x.c.ids ++ [(i : Int)] := hm
            rw [upd_other _ _ _ _ e]
            exact h.cb k hk (by
              rcases List.mem_append.1 hm with q | q
              · exact q
              · exact absurd (List.mem_singleton.1 q) (by omega))
      · show upd x.B i ⟨1, [], []⟩ k = x.B k
        rw [upd_other _ _ _ _ (by rintro rfl; exact hk h0)]
  · cases hy

theorem Hd.fillN {n : Nat} {s : Sd} {hl : Nat → Nat} {P : List (List Int)} {m0 : Nat} : ∀ (k : Nat) (x : Fl), Hd n ⟨x.fin, x.B, s, x.c⟩ hl [] P → m0 ≤ x.c.ids.length → x.D.r 2 = (x.c.first : Int) → x.D.r 3 = (((x.c.first + m0) % 16 : Nat) : Int) →
    Hd n ⟨(flN n k x).fin, (flN n k x).B, s, (flN n k x).c⟩ hl [] P ∧ (flN n k x).D.r = x.D.r ∧ (flN n k x).c.first = x.c.first ∧ x.c.ids.length ≤ (flN n k x).c.ids.length ∧ ∀ i, (x.B i).refs ≠ 0 → (flN n k x).B i = x.B i
  | 0, _, h, _, _, _ => ⟨h, rfl, rfl, Nat.le_refl _, fun _ _ => rfl⟩
  | k + 1, x, h, hm0, h2, h3 => by
    cases hy : flS n x with
    | none => rw [flN_stop hy]; exact ⟨h, rfl, rfl, Nat.le_refl _, fun _ _ => rfl⟩
    | some y =>
      rw [flN_step hy]
      obtain ⟨q1, q2, q3, q4, q5⟩ := h.fillS hy hm0 h2 h3
      obtain ⟨p1, p2, p3, p4, p5⟩ := Hd.fillN (m0 := m0) k y q1 (by omega) (by rw [q2, q3]; exact h2) (by rw [q2, q3]; exact h3)
      exact ⟨p1, p2.trans q2, p3.trans q3, Nat.le_trans q4 p4, fun i hi => by rw [← q5 i hi]; exact p5 i (by rw [q5 i hi]; exact hi)⟩

/-- fill -/
theorem Hd.fills {n : Nat} {x : Fl} {s : Sd} {hl : Nat → Nat} {P : List (List Int)} (h : Hd n ⟨x.D, x.B, s, x.c⟩ hl [] P) : Hd n ⟨(flF n x).D, (flF n x).B, s, (flF n x).c⟩ hl [] P ∧ ∀ i, (x.B i).refs ≠ 0 → (flF n x).B i = x.B i := by
  have h3 : x.D.r 3 = (x.c.nx : Int) := h.h3
  have h2 : x.D.r 2 = (x.c.first : Int) := by
    have := h.h2.2.1
    have c16 : x.c.first < 16 := h.cf
    have e : x.D.r 2 = (((x.c.first + 0) % 16 : Nat) : Int) := this
    rw [e]; omega
  have ef : x.fin = x.D := by
    unfold Fl.fin
    rw [show upd x.D.r 3 (x.c.nx : Int) = x.D.r by rw [← h3]; exact upd_self _ _]
  have h' : Hd n ⟨x.fin, x.B, s, x.c⟩ hl [] P := by rw [ef]; exact h
  obtain ⟨p1, p2, p3, p4, p5⟩ := Hd.fillN (m0 := x.c.ids.length) 15 x h' (Nat.le_refl _) h2 h3
  refine ⟨?_, p5⟩
  have e : (flF n x).D = (flN n 15 x).fin := by
    unfold flF
    show (if _ then _ else _) = _
    have nx16 : (flN n 15 x).c.nx < 16 := Nat.mod_lt _ (by omega)
    split
    · exact wr3 _ _ nx16
    · rename_i hn
      have el : (flN n 15 x).c.ids.length = x.c.ids.length := by omega
      have en : (flN n 15 x).c.nx = x.c.nx := by unfold Sd.nx; rw [el, p3]
      unfold Fl.fin
      rw [show upd (flN n 15 x).D.r 3 ((flN n 15 x).c.nx : Int) = (flN n 15 x).D.r by rw [en, ← h3, p2]; exact upd_self _ _]
  rw [e]
  exact p1

theorem Hd.new (n : Nat) : Hd n ⟨(bg0 n).D, (bg0 n).B, sd0, (bg0 n).c⟩ (fun _ => 0) [] [] := by
  have r := bgD_r Dev.new
  have h : Hd n ⟨bgD Dev.new, none4, sd0, sd0⟩ (fun _ => 0) [] [] := by
    refine ⟨(Dev.Ok.new.wr 0 2).wr 0 1, r.2.2.2.2.1, r.2.2.2.2.2.1.trans rfl, by show (bgD Dev.new).r 6 < 4; rw [r.2.2.2.2.2.2]; omega, by decide, by decide, by decide, by decide, r.2.2.2.1, r.2.1, ⟨0, by decide, r.2.2.1, rfl, fun k f hf => by simp at hf⟩, ⟨by decide, r.1, fun k f hf => by simp at hf, fun k _ hk => by simp [sd0] at hk⟩, fun i _ => by simp [none4, sd0], fun z hz => by simp [sd0] at hz, fun z hz => by simp [sd0] at hz, fun i _ hm => by simp [sd0] at hm⟩
  exact (Hd.fills (x := ⟨bgD Dev.new, none4, sd0⟩) h).1

/-- many are let go -/
theorem frs_spec {n : Nat} : ∀ (l : List Int) (B : Nat → Buf), (∀ id ∈ l, 0 ≤ id ∧ id < n) → (∀ i, i < n → l.count (i : Int) ≤ (B i).refs) → ∀ i, i < n → (frs n B l i).refs = (B i).refs - l.count (i : Int) ∧ (frs n B l i).head = (B i).head ∧ (frs n B l i).data = (B i).data
  | [], B, _, _, i, _ => ⟨by simp [frs], rfl, rfl⟩
  | a :: l, B, hr, hc, i, hi => by
    have ha := hr a (by simp)
    obtain ⟨k, rfl⟩ : ∃ k : Nat, a = k := ⟨a.toNat, by omega⟩
    have hk : k < n := by omega
    have hck := hc k hk
    rw [List.count_cons_self] at hck
    have hu : usd n B (k : Int) = true := usd_nat hk (by omega)
    have eB : frB n B (k : Int) = upd B k { B k with refs := (B k).refs - 1 } := by unfold frB; rw [if_pos hu]; simp only [Int.toNat_natCast]
    have e : frs n B ((k : Int) :: l) = frs n (frB n B (k : Int)) l := rfl
    rw [e]
    obtain ⟨q1, q2, q3⟩ := frs_spec l (frB n B (k : Int)) (fun z hz => hr z (by simp [hz])) (fun m hm => by
      have := hc m hm
      rw [eB]
      by_cases e : m = k
      · subst e; rw [upd_same]; show _ ≤ (B m).refs - 1; omega
      · rw [upd_other _ _ _ _ e]; rw [List.count_cons_of_ne (by omega)] at this; exact this) i hi
    rw [q1, q2, q3, eB]
    by_cases e : i = k
    · subst e
      rw [upd_same, List.count_cons_self]
      exact ⟨by show (B i).refs - 1 - _ = _; omega, rfl, rfl⟩
    · rw [upd_other _ _ _ _ e, List.count_cons_of_ne (by omega)]
      exact ⟨rfl, rfl, rfl⟩

theorem stB_of {n i : Nat} {B : Nat → Buf} {f : List Int} (hi : i < n) (hr : (B i).refs = 1) (hf : f.length ≤ 288) : stB n B (i : Int) f = upd B i { B i with data := f, head := [] } := by
  have hu : usd n B (i : Int) = true := usd_nat hi (by omega)
  have ho : owE n B (i : Int) = 0 := by unfold owE; rw [if_pos hu, if_neg (by simp only [Int.toNat_natCast]; omega)]
  have hs : stE n B (i : Int) f = 0 := by unfold stE; rw [if_pos ho, if_neg (by omega)]
  unfold stB
  rw [if_pos hs]
  simp only [Int.toNat_natCast]

section
variable {n : Nat} {X : Rg} {hl : Nat → Nat} {G P : List (List Int)}

theorem Hd.one (h : Hd n X hl G P) {i : Nat} (hi : i < n) (hm : (i : Int) ∈ X.c.ids) : X.c.ids.count (i : Int) = 1 ∧ X.s.ids.count (i : Int) = 0 ∧ hl i = 0 := by
  have h1 := h.refs i hi
  have h2 := (h.cb i hi hm).1
  have h3 := List.count_pos_iff.2 hm
  exact ⟨by omega, by omega, by omega⟩

theorem Hd.got (h : Hd n X hl G P) : X.got = G.length := by
  obtain ⟨a1, a2, _, _⟩ := h.h2
  have c16 := h.cf
  have c15 := h.cm
  unfold Rg.got Sd.upto span
  rw [a2, Int.toNat_natCast]
  omega

theorem Hd.sent (h : Hd n X hl G P) : ∃ j, X.sent = j ∧ j ≤ X.s.ids.length ∧ X.D.r 4 = (((X.s.first + j) % 16 : Nat) : Int) ∧ P.length = X.s.ids.length - j ∧ ∀ k f, P[k]? = some f → X.D.txf ((X.s.first + j + k) % 16) = f := by
  obtain ⟨j, b1, b2, b3, b4⟩ := h.h4
  have c16 := h.sf
  have c15 := h.sm
  refine ⟨j, ?_, b1, b2, b3, b4⟩
  unfold Rg.sent Sd.upto span
  rw [b2, Int.toNat_natCast]
  omega

theorem rd6_same (D : Dev) : (D.rdD 6).held = D.held ∧ (D.rdD 6).rxf = D.rxf ∧ (D.rdD 6).bad = D.bad ∧ (D.rdD 6).txf = D.txf ∧ (D.rdD 6).room = D.room ∧ (D.rdD 6).r 6 = 0 := by
  unfold Dev.rdD; rw [if_pos rfl]; exact ⟨rfl, rfl, rfl, rfl, rfl, upd_same D.r 6 0⟩

/-- what the device tells of what came -/
theorem Hd.rx (h : Hd n X hl G P) {k : Nat} {f : List Int} (hf : G[k]? = some f) : (X.D.rdD 6).rxE (((X.c.first + k) % 16 : Nat) : Int) = 0 ∧ (X.D.rdD 6).rxF (((X.c.first + k) % 16 : Nat) : Int) = f ∧ (X.D.rdD 6).rxB (((X.c.first + k) % 16 : Nat) : Int) = false ∧ f.length ≤ 274 := by
  obtain ⟨s1, s2, s3, _⟩ := rd6_same X.D
  obtain ⟨t1, t2, t3, t4⟩ := h.h2.2.2.1 k f hf
  have hp : place (((X.c.first + k) % 16 : Nat) : Int) = true := by unfold place; simp; omega
  have e0 : (X.D.rdD 6).rxE (((X.c.first + k) % 16 : Nat) : Int) = 0 := by unfold Dev.rxE; rw [if_pos hp, s1, Int.toNat_natCast, if_pos t1]
  refine ⟨e0, ?_, ?_, t4⟩
  · unfold Dev.rxF; rw [if_pos e0, s2, Int.toNat_natCast]; exact t2
  · unfold Dev.rxB; rw [if_pos e0, s3, Int.toNat_natCast]; exact t3

theorem Hd.come (h : Hd n X hl G P) : ∀ k, k ≤ G.length → rcC (X.D.rdD 6) X.c k = (X.c.ids.take k).map (fun z => (z, false))
  | 0, _ => rfl
  | k + 1, hk => by
    have hk2 : k < X.c.ids.length := Nat.lt_of_lt_of_le hk h.h2.1
    obtain ⟨f, hf⟩ : ∃ f, G[k]? = some f := ⟨_, List.getElem?_eq_getElem (by omega)⟩
    unfold rcC
    rw [h.come k (by omega), (h.rx hf).2.2.1, take_snoc hk2, List.map_append]
    rfl

/-- what is laid into the buffers -/
theorem Hd.laid (h : Hd n X hl G P) {B : Nat → Buf} (hB : ∀ i, i < n → (i : Int) ∈ X.c.ids → (B i).refs = 1) : ∀ k, k ≤ G.length → (∀ i, (rcB n (X.D.rdD 6) X.c B k i).refs = (B i).refs) ∧ (∀ i : Nat, (i : Int) ∉ X.c.ids.take k → rcB n (X.D.rdD 6) X.c B k i = B i) ∧
    ∀ m f, m < k → G[m]? = some f → ∃ i, i < n ∧ X.c.ids[m]? = some (i : Int) ∧ (rcB n (X.D.rdD 6) X.c B k i).head = [] ∧ (rcB n (X.D.rdD 6) X.c B k i).data = f
  | 0, _ => ⟨fun _ => rfl, fun _ _ => rfl, fun m f hm => by omega⟩
  | k + 1, hk => by
    obtain ⟨q1, q2, q3⟩ := h.laid hB k (by omega)
    have hk2 : k < X.c.ids.length := Nat.lt_of_lt_of_le hk h.h2.1
    obtain ⟨f, hf⟩ : ∃ f, G[k]? = some f := ⟨_, List.getElem?_eq_getElem (by omega)⟩
    obtain ⟨z, hz⟩ : ∃ z, X.c.ids[k]? = some z := ⟨_, List.getElem?_eq_getElem hk2⟩
    have hzm : z ∈ X.c.ids := List.mem_of_getElem? hz
    have hzr := h.rc z hzm
    obtain ⟨i, rfl⟩ : ∃ i : Nat, z = i := ⟨z.toNat, by omega⟩
    have hi : i < n := by omega
    have e : rcB n (X.D.rdD 6) X.c B (k + 1) = upd (rcB n (X.D.rdD 6) X.c B k) i { rcB n (X.D.rdD 6) X.c B k i with data := f, head := [] } := by
      show stB n (rcB n (X.D.rdD 6) X.c B k) (X.c.ids[k]?.getD 0) _ = _
      rw [hz, (h.rx hf).2.1]
      exact stB_of hi ((q1 i).trans (hB i hi hzm)) (by have := (h.rx hf).2.2.2; omega)
    have nt : (i : Int) ∉ X.c.ids.take k := fun hm => by
      have c1 := (h.one hi hzm).1
      have : X.c.ids.count (i : Int) = (X.c.ids.take k).count (i : Int) + (X.c.ids.drop k).count (i : Int) := by rw [← List.count_append, List.take_append_drop]
      have p1 := List.count_pos_iff.2 hm
      have p2 : 0 < (X.c.ids.drop k).count (i : Int) := List.count_pos_iff.2 (List.mem_of_getElem? (i := 0) (by rw [List.getElem?_drop]; exact hz))
      omega
    rw [e]
    refine ⟨fun m => ?_, fun m hm => ?_, fun m g hm hg => ?_⟩
    · by_cases em : m = i
      · subst em; rw [upd_same]; exact q1 m
      · rw [upd_other _ _ _ _ em]; exact q1 m
    · rw [take_snoc hk2, hz] at hm
      have em : m ≠ i := fun em => hm (by subst em; simp)
      rw [upd_other _ _ _ _ em]
      exact q2 m (fun h' => hm (List.mem_append.2 (.inl h')))
    · by_cases em : m = k
      · subst em
        rw [hf] at hg
        cases hg
        exact ⟨i, hi, hz, by rw [upd_same], by rw [upd_same]⟩
      · obtain ⟨i', r1, r2, r3, r4⟩ := q3 m g (by omega) hg
        have ne : i' ≠ i := fun e' => nt (by subst e'; exact List.mem_of_getElem? (i := m) (by rw [List.getElem?_take, if_pos (by omega)]; exact r2))
        exact ⟨i', r1, r2, by rw [upd_other _ _ _ _ ne]; exact r3, by rw [upd_other _ _ _ _ ne]; exact r4⟩

/-- Poll -/
theorem Hd.polls (h : Hd n X hl G P) : ¬ X.down ∧ X.come = (X.c.ids.take G.length).map (fun z => (z, false)) ∧ Hd n (X.polled n) (fun i => hl i + (X.c.ids.take G.length).count (i : Int)) [] P ∧
    ∀ (m : Nat) (f : List Int), G[m]? = some f → ∃ i : Nat, i < n ∧ X.c.ids[m]? = some (i : Int) ∧ 0 < ((X.polled n).B i).refs ∧ ((X.polled n).B i).head = [] ∧ ((X.polled n).B i).data = f := by
  obtain ⟨j, hj, b1, b2, b3, b4⟩ := h.sent
  obtain ⟨a1, a2, a3, a4⟩ := h.h2
  have hg := h.got
  have ev := h.ev
  have ev2 := h.ok.ev
  have nd : ¬ X.down := fun hd => by have := hd.1; omega
  obtain ⟨s1, s2, s3, s4, s5, s6⟩ := rd6_same X.D
  have rk : ∀ k, k ≠ 6 → (X.D.rdD 6).r k = X.D.r k := fun k hk => rd6_r X.D k hk
  have B1 := frs_spec (n := n) (X.s.ids.take j) X.B (fun z hz => h.rs z (List.mem_of_mem_take hz)) (fun i hi => by
    have := h.refs i hi
    have c1 : X.s.ids.count (i : Int) = (X.s.ids.take j).count (i : Int) + (X.s.ids.drop j).count (i : Int) := by rw [← List.count_append, List.take_append_drop]
    omega)
  have BC : ∀ i, i < n → (i : Int) ∈ X.c.ids → (frs n X.B (X.s.ids.take j) i).refs = 1 := fun i hi hm => by
    have h1 := (h.one hi hm).2.1
    have c1 : X.s.ids.count (i : Int) = (X.s.ids.take j).count (i : Int) + (X.s.ids.drop j).count (i : Int) := by rw [← List.count_append, List.take_append_drop]
    rw [(B1 i hi).1, (h.cb i hi hm).1]; omega
  obtain ⟨q1, q2, q3⟩ := h.laid BC G.length (Nat.le_refl _)
  have sf := h.sf
  have sm := h.sm
  have cf := h.cf
  have cm := h.cm
  have h5 := h.h5
  have h3 := h.h3
  unfold Sd.nx at h5 h3
  have key : Hd n ⟨X.D.rdD 6, rcB n (X.D.rdD 6) X.c (frs n X.B (X.s.ids.take j)) G.length, X.s.cut j, X.c.cut G.length⟩ (fun i => hl i + (X.c.ids.take G.length).count (i : Int)) [] P := by
    refine ⟨h.ok.rd 6, (rk 0 (by omega)).trans h.on, (rk 1 (by omega)).trans h.up, by show (X.D.rdD 6).r 6 < 4; rw [s6]; omega, Nat.mod_lt _ (by omega), by show (X.s.ids.drop j).length ≤ 15; rw [List.length_drop]; omega, Nat.mod_lt _ (by omega), by show (X.c.ids.drop G.length).length ≤ 15; rw [List.length_drop]; omega, ?_, ?_, ⟨0, by omega, ?_, ?_, ?_⟩, ⟨by simp, ?_, fun k f hf => by simp at hf, fun k k1 k2 => ?_⟩, fun i hi => ?_, fun z hz => h.rs z (List.mem_of_mem_drop hz), fun z hz => h.rc z (List.mem_of_mem_drop hz), fun i hi hm => ?_⟩
    · show (X.D.rdD 6).r 5 = (((X.s.cut j).nx : Nat) : Int)
      rw [rk 5 (by omega), h5]
      unfold Sd.nx Sd.cut
      simp only [List.length_drop]
      omega
    · show (X.D.rdD 6).r 3 = (((X.c.cut G.length).nx : Nat) : Int)
      rw [rk 3 (by omega), h3]
      unfold Sd.nx Sd.cut
      simp only [List.length_drop]
      omega
    · show (X.D.rdD 6).r 4 = ((((X.s.first + j) % 16 + 0) % 16 : Nat) : Int)
      rw [rk 4 (by omega), b2]; omega
    · show P.length = (X.s.ids.drop j).length - 0
      rw [List.length_drop, b3]; omega
    · intro k f hf
      show (X.D.rdD 6).txf (((X.s.first + j) % 16 + 0 + k) % 16) = f
      rw [s4, show ((X.s.first + j) % 16 + 0 + k) % 16 = (X.s.first + j + k) % 16 by omega]
      exact b4 k f hf
    · show (X.D.rdD 6).r 2 = ((((X.c.first + G.length) % 16 + 0) % 16 : Nat) : Int)
      rw [rk 2 (by omega), a2]; omega
    · have k2 : k < (X.c.ids.drop G.length).length := k2
      rw [List.length_drop] at k2
      show (X.D.rdD 6).room (((X.c.first + G.length) % 16 + k) % 16) = 274
      rw [s5, show ((X.c.first + G.length) % 16 + k) % 16 = (X.c.first + (G.length + k)) % 16 by omega]
      exact a4 (G.length + k) (by omega) (by omega)
    · show (rcB n (X.D.rdD 6) X.c (frs n X.B (X.s.ids.take j)) G.length i).refs = hl i + (X.c.ids.take G.length).count (i : Int) + (X.s.ids.drop j).count (i : Int) + (X.c.ids.drop G.length).count (i : Int)
      rw [q1 i, (B1 i hi).1]
      have h1 := h.refs i hi
      have c1 : X.s.ids.count (i : Int) = (X.s.ids.take j).count (i : Int) + (X.s.ids.drop j).count (i : Int) := by rw [← List.count_append, List.take_append_drop]
      have c2 : X.c.ids.count (i : Int) = (X.c.ids.take G.length).count (i : Int) + (X.c.ids.drop G.length).count (i : Int) := by rw [← List.count_append, List.take_append_drop]
      omega
    · have hm : (i : Int) ∈ X.c.ids.drop G.length := hm
      have hmc : (i : Int) ∈ X.c.ids := List.mem_of_mem_drop hm
      have c2 : X.c.ids.count (i : Int) = (X.c.ids.take G.length).count (i : Int) + (X.c.ids.drop G.length).count (i : Int) := by rw [← List.count_append, List.take_append_drop]
      have p2 := List.count_pos_iff.2 hm
      have nt : (i : Int) ∉ X.c.ids.take G.length := fun h' => by
        have p1 := List.count_pos_iff.2 h'
        have := (h.one hi hmc).1
        omega
      show (rcB n (X.D.rdD 6) X.c (frs n X.B (X.s.ids.take j)) G.length i).refs = 1 ∧ (rcB n (X.D.rdD 6) X.c (frs n X.B (X.s.ids.take j)) G.length i).head = [] ∧ (rcB n (X.D.rdD 6) X.c (frs n X.B (X.s.ids.take j)) G.length i).data = []
      rw [q2 i nt, BC i hi hmc, (B1 i hi).2.1, (B1 i hi).2.2]
      exact ⟨rfl, (h.cb i hi hmc).2.1, (h.cb i hi hmc).2.2⟩
  have er : X.ready n = ⟨X.D.rdD 6, rcB n (X.D.rdD 6) X.c (frs n X.B (X.s.ids.take j)) G.length, X.c.cut G.length⟩ := by unfold Rg.ready; rw [hg, hj]
  have ep : X.polled n = ⟨(flF n (X.ready n)).D, (flF n (X.ready n)).B, X.s.cut j, (flF n (X.ready n)).c⟩ := by unfold Rg.polled; rw [hj]
  obtain ⟨f1, f2⟩ := Hd.fills (x := X.ready n) (s := X.s.cut j) (by rw [er]; exact key)
  refine ⟨nd, by unfold Rg.come; rw [hg]; exact h.come _ (Nat.le_refl _), by rw [ep]; exact f1, fun m f hf => ?_⟩
  obtain ⟨i, r1, r2, r3, r4⟩ := q3 m f (List.getElem?_eq_some_iff.1 hf).1 hf
  have hm : (i : Int) ∈ X.c.ids := List.mem_of_getElem? r2
  have hr1 : (rcB n (X.D.rdD 6) X.c (frs n X.B (X.s.ids.take j)) G.length i).refs = 1 := (q1 i).trans (BC i r1 hm)
  have eB : (X.polled n).B i = rcB n (X.D.rdD 6) X.c (frs n X.B (X.s.ids.take j)) G.length i := by
    rw [ep]
    show (flF n (X.ready n)).B i = _
    have := f2 i (by rw [er]; show (rcB n (X.D.rdD 6) X.c (frs n X.B (X.s.ids.take j)) G.length i).refs ≠ 0; omega)
    rw [this, er]
  exact ⟨i, r1, r2, by rw [eB]; omega, by rw [eB]; exact r3, by rw [eB]; exact r4⟩
end
end Go.Proofs.Ytjkfjijnjkpbbaa
