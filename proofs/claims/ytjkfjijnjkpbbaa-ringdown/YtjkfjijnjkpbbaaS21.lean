
/-
  What holds between the calls of both rings, in numbers. does: what calls others of the rig's; Reset.
-/
import Derived.Test.YtjkfjijnjkpbbaaS17
import Derived.Test.YtjkfjijnjkpbbaaS19
import Derived.Deep.RegionHeld3
namespace Go.Proofs.Ytjkfjijnjkpbbaa
open Go.RowKit

/-- heads are short -/
def HL (B : Nat → Buf) : Prop := ∀ i, (B i).head.length ≤ 104
theorem HL.st {n : Nat} {B : Nat → Buf} (h : HL B) (id : Int) (bs : List Int) : HL (stB n B id bs) := fun i => stB_head i 104 (h i)
theorem HL.upd {B : Nat → Buf} (h : HL B) (i : Nat) (x : Buf) (hx : x.head.length ≤ 104) : HL (upd B i x) := fun j => by
  by_cases e : j = i
  · subst e; rw [upd_same]; exact hx
  · rw [upd_other _ _ _ _ e]; exact h j
theorem HL.fr {n : Nat} {B : Nat → Buf} (h : HL B) (id : Int) : HL (frB n B id) := by
  unfold frB; split
  · exact h.upd _ _ (h _)
  · exact h
theorem HL.ho {n : Nat} {B : Nat → Buf} (h : HL B) (id : Int) : HL (hoB n B id) := by
  unfold hoB; split
  · exact h.upd _ _ (h _)
  · exact h
theorem HL.frs {n : Nat} {B : Nat → Buf} (h : HL B) (l : List Int) : HL (frs n B l) := by
  unfold Go.Proofs.Ytjkfjijnjkpbbaa.frs
  induction l generalizing B with
  | nil => exact h
  | cons a l ih => exact ih (h.fr a)
theorem HL.flN {n : Nat} : ∀ (k : Nat) (x : Fl), HL x.B → HL (flN n k x).B
  | 0, _, h => h
  | k + 1, x, h => by
    unfold Go.Proofs.Ytjkfjijnjkpbbaa.flN
    split
    · exact h
    · rename_i y hy
      refine HL.flN k y ?_
      unfold flS at hy
      split at hy
      · split at hy
        · cases hy
        · cases hy; exact h.upd _ _ (Nat.zero_le _)
      · cases hy
theorem HL.rcB {n : Nat} {D : Dev} {c : Sd} {B : Nat → Buf} (h : HL B) : ∀ k, HL (rcB n D c B k)
  | 0 => h
  | k + 1 => (HL.rcB h k).st _ _
theorem HL.reset {n : Nat} {X : Rg} (h : HL X.B) : HL (X.reset n).B := HL.flN 15 ⟨bgD X.D, _, sd0⟩ ((h.frs _).frs _)
theorem HL.poll {n : Nat} {X : Rg} (h : HL X.B) : HL (X.poll n).B := by
  unfold Rg.poll; split
  · exact HL.reset (X := ⟨X.D.rdD 6, X.B, X.s, X.c⟩) h
  · exact HL.flN 15 (X.ready n) (HL.rcB (h.frs _) _)

theorem reset_bdd {n m : Nat} {X : Rg} (h : Bdd m X.B) (h1 : 1 ≤ m) (ok : X.D.Ok) : Bdd m (X.reset n).B :=
  (flF_ok (x := ⟨bgD X.D, frs n (frs n X.B X.s.ids) X.c.ids, sd0⟩) h1 ((ok.wr 0 2).wr 0 1) ((h.frs _).frs _)).2
theorem poll_bdd {n m : Nat} {X : Rg} (h : Bdd m X.B) (h1 : 1 ≤ m) (ok : X.D.Ok) : Bdd m (X.poll n).B := by
  unfold Rg.poll; split
  · exact reset_bdd (X := ⟨X.D.rdD 6, X.B, X.s, X.c⟩) h h1 (ok.rd 6)
  · have rc : ∀ k, Bdd m (rcB n (X.D.rdD 6) X.c (frs n X.B (X.s.ids.take X.sent)) k) := fun k => by
      induction k with
      | zero => exact h.frs _
      | succ k ih => exact ih.st _ _
    exact (flF_ok (x := X.ready n) h1 (ok.rd 6) (rc _)).2

theorem flN_r {n : Nat} : ∀ (k : Nat) (x : Fl), (flN n k x).D.r = x.D.r
  | 0, _ => rfl
  | k + 1, x => by
    unfold flN
    split
    · rfl
    · rename_i y hy
      rw [flN_r k y]
      unfold flS at hy
      split at hy
      · split at hy
        · cases hy
        · cases hy; exact srD_r _ _ _
      · cases hy
theorem wr_r1 (D : Dev) (reg v : Int) (h : reg = 3 ∨ reg = 5) : (D.wrD reg v).r 1 = D.r 1 := by
  unfold Dev.wrD
  rcases h with rfl | rfl
  · simp; split
    · exact upd_other D.r 3 1 v (by omega)
    · rfl
  · simp; split
    · exact upd_other D.r 5 1 v (by omega)
    · rfl
theorem flF_r1 {n : Nat} {x : Fl} : (flF n x).D.r 1 = x.D.r 1 := by
  unfold flF
  show Dev.r (if _ then _ else _) 1 = _
  split
  · rw [wr_r1 _ _ _ (.inl rfl), flN_r]
  · rw [flN_r]
theorem reset_r1 {n : Nat} {X : Rg} : (X.reset n).D.r 1 = X.D.r 1 := (flF_r1 (n := n) (x := ⟨bgD X.D, frs n (frs n X.B X.s.ids) X.c.ids, sd0⟩)).trans (bgD_r X.D).2.2.2.2.2.1
theorem poll_r1 {n : Nat} {X : Rg} : (X.poll n).D.r 1 = X.D.r 1 := by
  unfold Rg.poll; split
  · exact (reset_r1 (X := ⟨X.D.rdD 6, X.B, X.s, X.c⟩)).trans (rd6_r X.D 1 (by omega))
  · exact (flF_r1 (x := X.ready n)).trans (rd6_r X.D 1 (by omega))
theorem sd_r1 {n : Nat} {D : Dev} {B : Nat → Buf} {s : Sd} (id : Int) : (sdD n D B s id).r 1 = D.r 1 := by
  unfold sdD; split
  · rw [wr_r1 _ _ _ (.inr rfl)]
    unfold Dev.stD; split <;> rfl
  · rfl
theorem tk_r1 (D : Dev) : D.tkD.r 1 = D.r 1 := by
  unfold Dev.tkD; split
  · show upd (upd D.r 4 (nxt (D.r 4))) 6 (evor (D.r 6) 2) 1 = D.r 1
    rw [upd_other _ _ _ _ (by omega), upd_other _ _ _ _ (by omega)]
  · rfl
theorem gv_r1 (D : Dev) (f : List Int) (b : Bool) : (D.gvD f b).r 1 = D.r 1 := by
  unfold Dev.gvD; split
  · rfl
  · split
    · show upd (upd D.r 2 (nxt (D.r 2))) 6 (evor (D.r 6) 1) 1 = D.r 1
      rw [upd_other _ _ _ _ (by omega), upd_other _ _ _ _ (by omega)]
    · show upd D.r 7 (wrap64 (D.r 7 + 1)) 1 = D.r 1
      rw [upd_other _ _ _ _ (by omega)]

/-- one ring: its holders, and those that are known; c: how many have come at most -/
def Kn (n : Nat) (Z : Rg) (Cm Mn : List Int) (c : Nat) : Prop := ∃ hl g, Hz n Z hl g ∧ (∀ i, i < n → Mn.count (i : Int) + Cm.count (i : Int) ≤ hl i) ∧ Cm.length + g ≤ c
theorem Kn.ok {n : Nat} {Z : Rg} {Cm Mn : List Int} {c : Nat} (h : Kn n Z Cm Mn c) : Z.D.Ok := by obtain ⟨_, _, hz, _⟩ := h; exact hz.ok
theorem Kn.mono {n : Nat} {Z : Rg} {Cm Mn : List Int} {c c' : Nat} (h : Kn n Z Cm Mn c) (hc : c ≤ c') : Kn n Z Cm Mn c' := by obtain ⟨hl, g, hz, h1, h2⟩ := h; exact ⟨hl, g, hz, h1, by omega⟩
theorem Kn.len {n : Nat} {Z : Rg} {Cm Mn : List Int} {c : Nat} (h : Kn n Z Cm Mn c) : Cm.length ≤ c := by obtain ⟨_, _, _, _, h2⟩ := h; omega
theorem Kn.map {n : Nat} {Z Z' : Rg} {Cm Mn : List Int} {c : Nat} (h : Kn n Z Cm Mn c) (f : ∀ hl g, Hz n Z hl g → ∃ g', g' ≤ g ∧ Hz n Z' hl g') : Kn n Z' Cm Mn c := by
  obtain ⟨hl, g, hz, hc, h2⟩ := h
  obtain ⟨g', hg, hz'⟩ := f hl g hz
  exact ⟨hl, g', hz', hc, by omega⟩
theorem Kn.sends {n : Nat} {Z : Rg} {Cm Mn : List Int} {c : Nat} (h : Kn n Z Cm Mn c) (id : Int) : Kn n ⟨sdD n Z.D Z.B Z.s id, sdB n Z.D Z.B Z.s id, sdS n Z.D Z.B Z.s id, Z.c⟩ Cm Mn c := h.map (fun _ g hz => by
  rcases hz.sends id with ⟨_, _, h'⟩ | ⟨_, h'⟩
  · exact ⟨g, Nat.le_refl _, h'⟩
  · exact ⟨g, Nat.le_refl _, h'⟩)
theorem Kn.resets {n : Nat} {Z : Rg} {Cm Mn : List Int} {c : Nat} (h : Kn n Z Cm Mn c) : Kn n (Z.reset n) Cm Mn c := h.map (fun _ _ hz => ⟨0, Nat.zero_le _, hz.resets.1⟩)
theorem Kn.takesD {n : Nat} {Z : Rg} {Cm Mn : List Int} {c : Nat} (h : Kn n Z Cm Mn c) : Kn n ⟨Z.D.tkD, Z.B, Z.s, Z.c⟩ Cm Mn c := h.map (fun _ g hz => ⟨g, Nat.le_refl _, hz.takes⟩)
theorem Kn.gives {n : Nat} {Z : Rg} {Cm Mn : List Int} {c : Nat} (h : Kn n Z Cm Mn c) (f : List Int) (b : Bool) : Kn n ⟨Z.D.gvD f b, Z.B, Z.s, Z.c⟩ Cm Mn (c + 1) := by
  obtain ⟨hl, g, hz, hc, h2⟩ := h
  rcases hz.gives f b with ⟨_, h'⟩ | ⟨_, h'⟩
  · exact ⟨hl, _, h', hc, by omega⟩
  · exact ⟨hl, _, h', hc, by omega⟩
theorem Kn.links {n : Nat} {Z : Rg} {Cm Mn : List Int} {c : Nat} (h : Kn n Z Cm Mn c) (b : Bool) : Kn n ⟨Z.D.lkD b, Z.B, Z.s, Z.c⟩ Cm Mn c := h.map (fun _ g hz => ⟨g, Nat.le_refl _, hz.links b⟩)
theorem Kn.ticks {n : Nat} {Z : Rg} {Cm Mn : List Int} {c : Nat} (h : Kn n Z Cm Mn c) : Kn n ⟨Z.D.tick, Z.B, Z.s, Z.c⟩ Cm Mn c := h.map (fun _ g hz => ⟨g, Nat.le_refl _, hz.ticks⟩)
theorem Kn.polls {n : Nat} {Z : Rg} {Cm Mn L : List Int} {c : Nat} (h : Kn n Z Cm Mn c) (hL : L <+: Z.told.map Prod.fst) : Kn n (Z.poll n) (Cm ++ L) Mn c := by
  obtain ⟨hl, g, hz, hc, h2⟩ := h
  have tl : Z.told.length ≤ g := by unfold Rg.told; split; simp; rw [hz.comes.2]; omega
  have l2 := hL.length_le
  rw [List.length_map] at l2
  refine ⟨_, 0, hz.poll.1, fun i hi => ?_, by rw [List.length_append]; omega⟩
  obtain ⟨t, ht⟩ := hL
  have := hc i hi
  rw [List.count_append, ← ht, List.count_append]
  omega
theorem Kn.took {n : Nat} {Z Z' : Rg} {Cm Mn Mn' : List Int} {c i : Nat} (h : Kn n Z Cm Mn c) (t : Tk n Z Z' i) (hM : Mn' = Mn ∨ Mn' = Mn ++ [(i : Int)]) : Kn n Z' Cm Mn' c := by
  obtain ⟨hl, g, hz, hc, h2⟩ := h
  refine ⟨_, g, hz.took t, fun j hj => ?_, h2⟩
  have h1 := hc j hj
  have h2 : Mn'.count (j : Int) ≤ Mn.count (j : Int) + (if j = i then 1 else 0) := by
    rcases hM with rfl | rfl
    · omega
    · rw [List.count_append, List.count_singleton]
      split <;> split <;> rename_i q1 q2 <;> simp at q1 <;> omega
  by_cases e : j = i
  · subst e; rw [upd_same]; rw [if_pos rfl] at h2; omega
  · rw [upd_other _ _ _ _ e]; rw [if_neg e] at h2; omega
theorem count_erase {L : List Int} {j : Nat} {id : Int} (h : L[j]? = some id) (z : Int) : (L.eraseIdx j).count z + (if z = id then 1 else 0) = L.count z := by
  have hj := (List.getElem?_eq_some_iff.1 h).1
  have e : L = L.take j ++ id :: L.drop (j + 1) := by
    have h2 := (List.getElem?_eq_some_iff.1 h).2
    rw [← h2, ← List.drop_eq_getElem_cons hj, List.take_append_drop]
  rw [List.eraseIdx_eq_take_drop_succ]
  conv => rhs; rw [e]
  rw [List.count_append, List.count_append, List.count_cons]
  by_cases q : z = id
  · subst q; simp; omega
  · rw [if_neg q]
    have : (id == z) = false := by simp; exact fun e => q e.symm
    rw [this]; simp
theorem Kn.frees {n : Nat} {Z : Rg} {Cm Mn Cm' Mn' : List Int} {c : Nat} {id : Int} (h : Kn n Z Cm Mn c) (hr : 0 ≤ id ∧ id < n) (hM : ∀ z, Mn'.count z + Cm'.count z + (if z = id then 1 else 0) = Mn.count z + Cm.count z) (hl' : Cm'.length ≤ Cm.length) : Kn n ⟨Z.D, frB n Z.B id, Z.s, Z.c⟩ Cm' Mn' c := by
  obtain ⟨hl, g, hz, hc, h2⟩ := h
  obtain ⟨i, rfl⟩ : ∃ i : Nat, id = i := ⟨id.toNat, by omega⟩
  have hi : i < n := by omega
  have h0 := hc i hi
  have h1 := hM (i : Int)
  rw [if_pos rfl] at h1
  refine ⟨_, g, (hz.lets hi (by omega)).2, fun j hj => ?_, by omega⟩
  have h2 := hc j hj
  have h3 := hM (j : Int)
  by_cases e : j = i
  · subst e; rw [upd_same]; omega
  · rw [upd_other _ _ _ _ e]
    rw [if_neg (by omega)] at h3
    omega

/-- both -/
structure Inv (n : Nat) (X Y : Rg) (Cm Mn : List Int) (m : Nat) : Prop where
  x : Kn n X Cm Mn m
  y : Kn n Y Cm Mn m
  rc : ∀ z ∈ Cm, 0 ≤ z ∧ z < n
  rm : ∀ z ∈ Mn, 0 ≤ z ∧ z < n
  bx : Bdd m X.B
  by' : Bdd m Y.B
  m1 : 1 ≤ m
  hy : HL Y.B

/-- what does leaves -/
def DoesP (ρ : Nat → Nat) (w : World) (x : Nat) (q k : Bl) (n m : Nat) (kd : Int) (X Y : Rg) (_Cm Mn : List Int) (e : Ending) (w' : World) : Prop :=
  ∃ b ρ' tv' cv' ov' mv' X' Y' Cm' Mn', e = .returned (.bool b) ∧ Two ρ' w' x q k n X' Y' tv' cv' ov' mv' Cm' Mn' ∧ Mv ρ w ρ' w' ∧ Inv n X' Y' Cm' Mn' (m + 1) ∧ Mn'.length ≤ Mn.length + 1 ∧ (kd ≠ 6 → X'.D.r 1 = X.D.r 1) ∧ (X = Y → b = true ∧ X' = Y')

theorem Inv.same {n : Nat} {X Y X' Y' : Rg} {Cm Mn : List Int} {m : Nat} (h : Inv n X Y Cm Mn m) (x' : Kn n X' Cm Mn (m + 1)) (y' : Kn n Y' Cm Mn (m + 1)) (eX : X'.B = X.B) (eY : Y'.B = Y.B) : Inv n X' Y' Cm Mn (m + 1) :=
  ⟨x', y', h.rc, h.rm, by rw [eX]; exact h.bx.mono (by omega), by rw [eY]; exact h.by'.mono (by omega), by omega, by rw [eY]; exact h.hy⟩
theorem Tk.bdd {n m : Nat} {X X' : Rg} {i : Nat} (t : Tk n X X' i) (h : Bdd m X.B) (h1 : 1 ≤ m) : Bdd m X'.B := fun j => by
  by_cases e : j = i
  · subst e; rw [t.r]; exact h1
  · rw [t.o j e]; exact h j
theorem Tk.hl {n : Nat} {X X' : Rg} {i : Nat} (t : Tk n X X' i) (h : HL X.B) : HL X'.B := fun j => by
  by_cases e : j = i
  · subst e; exact t.h
  · rw [t.o j e]; exact h j
theorem Inv.takes {n : Nat} {X Y X' Y' : Rg} {Cm Mn Mn' : List Int} {m : Nat} (h : Inv n X Y Cm Mn m) (hX : X' = X ∨ ∃ i, Tk n X X' i) (hY : Y' = Y ∨ ∃ i, Tk n Y Y' i) (hM : Mn' = Mn ∨ ∃ i : Nat, Tk n X X' i ∧ Tk n Y Y' i ∧ Mn' = Mn ++ [(i : Int)]) : Inv n X' Y' Cm Mn' (m + 1) ∧ Mn'.length ≤ Mn.length + 1 ∧ X'.D.r 1 = X.D.r 1 := by
  have bx : Bdd m X'.B := by
    rcases hX with rfl | ⟨i, t⟩
    · exact h.bx
    · exact t.bdd h.bx h.m1
  have by' : Bdd m Y'.B := by
    rcases hY with rfl | ⟨i, t⟩
    · exact h.by'
    · exact t.bdd h.by' h.m1
  have hy : HL Y'.B := by
    rcases hY with rfl | ⟨i, t⟩
    · exact h.hy
    · exact t.hl h.hy
  have r1 : X'.D.r 1 = X.D.r 1 := by
    rcases hX with rfl | ⟨i, t⟩
    · rfl
    · rw [t.d]
  rcases hM with rfl | ⟨i, tx, ty, rfl⟩
  · refine ⟨⟨?_, ?_, h.rc, h.rm, bx.mono (by omega), by'.mono (by omega), by omega, hy⟩, by omega, r1⟩
    · rcases hX with rfl | ⟨i, t⟩
      · exact h.x.mono (by omega)
      · exact (h.x.took t (.inl rfl)).mono (by omega)
    · rcases hY with rfl | ⟨i, t⟩
      · exact h.y.mono (by omega)
      · exact (h.y.took t (.inl rfl)).mono (by omega)
  · refine ⟨⟨(h.x.took tx (.inr rfl)).mono (by omega), (h.y.took ty (.inr rfl)).mono (by omega), h.rc, fun z hz => ?_, bx.mono (by omega), by'.mono (by omega), by omega, hy⟩, by simp, r1⟩
    rcases List.mem_append.1 hz with h1 | h1
    · exact h.rm z h1
    · rw [List.mem_singleton.1 h1]; have := (gt_some tx.g).1; omega
theorem Inv.frees {n : Nat} {X Y : Rg} {Cm Mn Cm' Mn' : List Int} {m j : Nat} {id : Int} (h : Inv n X Y Cm Mn m) (hw : (Mn[j]? = some id ∧ Mn' = Mn.eraseIdx j ∧ Cm' = Cm) ∨ (Cm[j]? = some id ∧ Cm' = Cm.eraseIdx j ∧ Mn' = Mn)) : Inv n ⟨X.D, frB n X.B id, X.s, X.c⟩ ⟨Y.D, frB n Y.B id, Y.s, Y.c⟩ Cm' Mn' (m + 1) ∧ Mn'.length ≤ Mn.length + 1 := by
  have key : (0 ≤ id ∧ id < n) ∧ (∀ z, Mn'.count z + Cm'.count z + (if z = id then 1 else 0) = Mn.count z + Cm.count z) ∧ (∀ z ∈ Cm', z ∈ Cm) ∧ (∀ z ∈ Mn', z ∈ Mn) ∧ Cm'.length ≤ Cm.length ∧ Mn'.length ≤ Mn.length := by
    rcases hw with ⟨h1, rfl, rfl⟩ | ⟨h1, rfl, rfl⟩
    · exact ⟨h.rm id (List.mem_of_getElem? h1), fun z => by have := count_erase h1 z; omega, fun z hz => hz, fun z hz => List.mem_of_mem_eraseIdx hz, Nat.le_refl _, List.length_eraseIdx_le _ _⟩
    · exact ⟨h.rc id (List.mem_of_getElem? h1), fun z => by have := count_erase h1 z; omega, fun z hz => List.mem_of_mem_eraseIdx hz, fun z hz => hz, List.length_eraseIdx_le _ _, Nat.le_refl _⟩
  obtain ⟨hr, hc, m1, m2, l1, l2⟩ := key
  exact ⟨⟨(h.x.frees hr hc l1).mono (by omega), (h.y.frees hr hc l1).mono (by omega), fun z hz => h.rc z (m1 z hz), fun z hz => h.rm z (m2 z hz), (h.bx.fr _).mono (by omega), (h.by'.fr _).mono (by omega), by omega, h.hy.fr _⟩, by omega⟩
theorem Inv.polls {n : Nat} {X Y : Rg} {Cm Mn L : List Int} {m : Nat} (h : Inv n X Y Cm Mn m) (hX : L <+: X.told.map Prod.fst) (hY : L <+: Y.told.map Prod.fst) : Inv n (X.poll n) (Y.poll n) (Cm ++ L) Mn (m + 1) := by
  obtain ⟨hl, g, hz, _⟩ := h.x
  refine ⟨(h.x.polls hX).mono (by omega), (h.y.polls hY).mono (by omega), fun z hz' => ?_, h.rm, (poll_bdd h.bx h.m1 h.x.ok).mono (by omega), (poll_bdd h.by' h.m1 h.y.ok).mono (by omega), by omega, h.hy.poll⟩
  rcases List.mem_append.1 hz' with h1 | h1
  · exact h.rc z h1
  · exact hz.poll.2 z (hX.subset h1)

/-- a call in a box of its own -/
structure Box (ρ : Nat → Nat) (N : Nat) (w : World) (x so : Nat) (q k : Bl) (n : Nat) (X Y : Rg) (tv cv ov mv : Value) (Cm Mn : List Int) (kd kk : Int) (bv : Value) (bs : List Int) (ys : Bool) (w0 : World) : Prop where
  t : Two ρ w0 x q k n X Y tv cv ov mv Cm Mn
  m : Mv ρ w ρ w0
  v : IsF (fun g => N ≤ g) w0 bv bs
  o0 : w0.cell? ⟨so, 0, none⟩ = some (.int .i64 kd)
  o1 : w0.cell? ⟨so, 1, none⟩ = some (.int .i64 kk)
  o2 : w0.cell? ⟨so, 2, none⟩ = some bv
  o3 : w0.cell? ⟨so, 3, none⟩ = some (.bool ys)
  r : ρ so = 0
  sl : so < w0.heap.size
  nw : N ≤ w0.heap.size

theorem Box.mk' {ρ : Nat → Nat} {N : Nat} {w : World} {x : Nat} {q k : Bl} {n : Nat} {X Y : Rg} {tv cv ov mv : Value} {Cm Mn : List Int} {kd kk : Int} {bv : Value} {bs : List Int} {ys : Bool} (h : Two ρ w x q k n X Y tv cv ov mv Cm Mn) (hv : IsF (fun g => N ≤ g) w bv bs) (hNw : N ≤ w.heap.size) : Box ρ N w x w.heap.size q k n X Y tv cv ov mv Cm Mn kd kk bv bs ys (w.alloc (.cells #[.int .i64 kd, .int .i64 kk, bv, .bool ys] 29)) := by
  have bA : Below w.heap.size w (w.alloc (.cells #[.int .i64 kd, .int .i64 kk, bv, .bool ys] 29)) := (Below.refl _ _).alloc (Nat.le_refl _) _
  have cz : ∀ j v, (#[.int .i64 kd, .int .i64 kk, bv, .bool ys] : Array Value)[j]? = some v → (w.alloc (.cells #[.int .i64 kd, .int .i64 kk, bv, .bool ys] 29)).cell? ⟨w.heap.size, j, none⟩ = some v := fun j v hv => by
    rw [cell_of_row _ w.heap.size j _ 29 (0, 0) (heap_alloc_new w _)]; exact hv
  refine ⟨h.later bA, Mv.below h.lt bA, hv.later bA, cz 0 _ rfl, cz 1 _ rfl, cz 2 _ rfl, cz 3 _ rfl, ?_, by simp, Nat.le_trans hNw bA.size⟩
  rcases Nat.eq_zero_or_pos (ρ w.heap.size) with e | e
  · exact e
  · have := h.lt _ (by omega : ρ w.heap.size ≠ 0); omega
/-- the box stays -/
theorem Box.keep {ρ : Nat → Nat} {N : Nat} {w : World} {x so : Nat} {q k : Bl} {n : Nat} {X Y : Rg} {tv cv ov mv : Value} {Cm Mn : List Int} {kd kk : Int} {bv : Value} {bs : List Int} {ys : Bool} {w0 W : World} (h : Box ρ N w x so q k n X Y tv cv ov mv Cm Mn kd kk bv bs ys w0) (hb : But (fun g => ρ g ≠ 0 ∧ ρ g ≠ 13) w0 W) : (∀ j v, w0.cell? ⟨x, j, none⟩ = some v → W.cell? ⟨x, j, none⟩ = some v) ∧ (∀ j v, w0.cell? ⟨so, j, none⟩ = some v → W.cell? ⟨so, j, none⟩ = some v) :=
  ⟨fun j _ hv => (hb.cell (p := ⟨x, j, none⟩) h.t.p.xlt (fun e => e.2 h.t.xx)).trans hv, fun j _ hv => (hb.cell (p := ⟨so, j, none⟩) h.sl (fun e => e.1 h.r)).trans hv⟩
theorem Two.nx13 {ρ : Nat → Nat} {w : World} {x : Nat} {q k : Bl} {n : Nat} {X Y : Rg} {tv cv ov mv : Value} {Cm Mn : List Int} (h : Two ρ w x q k n X Y tv cv ov mv Cm Mn) : ∀ g, PK q g → ρ g ≠ 0 ∧ ρ g ≠ 13 := fun g e => by have := h.pk g e; omega

set_option maxRecDepth 100000 in
set_option maxHeartbeats 4000000 in
theorem does_0 {ρ : Nat → Nat} {w : World} {x : Nat} {q k : Bl} {n m : Nat} {X Y : Rg} {tv cv ov mv : Value} {Cm Mn : List Int} (h : Two ρ w x q k n X Y tv cv ov mv Cm Mn) (hi : Inv n X Y Cm Mn m) (hm : m ≤ 4398046511104) (hcl : Cm.length ≤ 4398046511104) (hml : Mn.length ≤ 4398046511104) {N : Nat} (hN : ∀ g, ρ g ≠ 0 → N ≤ g) (kk : Int) (ys : Bool) (ba : Option Addr) (bc : Nat) (bs : List Int) (hbl : bs.length ≤ 140737488351232) (hv : IsF (fun g => N ≤ g) w (.slice ba bs.length bc) bs) (hNw : N ≤ w.heap.size) (hcap : bc ≤ maxLen) :
    Calls Try.prog 9 #[.pointer (some ⟨x, 0, none⟩), .agg #[.int .i64 0, .int .i64 kk, .slice ba bs.length bc, .bool ys]] w (DoesP ρ w x q k n m 0 X Y Cm Mn) := by
  have bx : Box ρ N w x w.heap.size q k n X Y tv cv ov mv Cm Mn 0 kk (.slice ba bs.length bc) bs ys (w.alloc (.cells #[.int .i64 0, .int .i64 kk, .slice ba bs.length bc, .bool ys] 29)) := Box.mk' h hv hNw
  have BX := hide bx
  have o0 := bx.o0
  have HI := hide hi
  have HN := hide hN
  have HB : Hid (m ≤ 4398046511104 ∧ Cm.length ≤ 4398046511104 ∧ Mn.length ≤ 4398046511104 ∧ bs.length ≤ 140737488351232 ∧ bc ≤ maxLen) := And.intro hm (And.intro hcl (And.intro hml (And.intro hbl hcap)))
  clear h hi hv hNw hN bx hm hcl hml hbl hcap
  go_enter Try.func9, Try.ntmps9
  go_upto_region 1 with fail
  obtain ⟨so, hso⟩ : ∃ so, so = w.heap.size := ⟨_, rfl⟩
  rw [← hso] at BX o0 ⊢
  generalize w.alloc (.cells #[.int .i64 0, .int .i64 kk, .slice ba bs.length bc, .bool ys] 29) = w0 at *
  clear hso
  have o1 := BX.out.o1
  have o2 := BX.out.o2
  have o3 := BX.out.o3
  have XT := hide (takes_any BX.out.t HB.out.2.2.1 HN.out 0 kk ys _ bs HB.out.2.2.2.1 BX.out.v BX.out.nw (fun a m c e => by simp only [Value.slice.injEq] at e; rw [← e.2.2]; exact HB.out.2.2.2.2))
  go_wp2_with fail
  refine XT.out.mono ?_
  rintro _ w1 ⟨b, ρ1, mv1, X1, Y1, Mn1, rfl, t1, m1, hX1, hY1, hM1, hEq⟩
  have F : Hid (DoesP ρ w x q k n m 0 X Y Cm Mn (.returned (.bool b)) w1) := by
    obtain ⟨i1, i2, i3⟩ := HI.out.takes hX1 hY1 hM1
    exact ⟨b, ρ1, _, _, _, mv1, X1, Y1, Cm, Mn1, rfl, t1, BX.out.m.trans m1, i1, i2, fun _ => i3, hEq⟩
  clear t1 m1 hX1 hY1 hM1 hEq XT o1 o2 o3 o0
  go_wp2
  go_ret
  exact F.out
set_option maxRecDepth 100000 in
set_option maxHeartbeats 4000000 in
theorem does_2 {ρ : Nat → Nat} {w : World} {x : Nat} {q k : Bl} {n m : Nat} {X Y : Rg} {tv cv ov mv : Value} {Cm Mn : List Int} (h : Two ρ w x q k n X Y tv cv ov mv Cm Mn) (hi : Inv n X Y Cm Mn m) (hm : m ≤ 4398046511104) (hcl : Cm.length ≤ 4398046511104) (hml : Mn.length ≤ 4398046511104) {N : Nat} (hN : ∀ g, ρ g ≠ 0 → N ≤ g) (kk : Int) (ys : Bool) (ba : Option Addr) (bc : Nat) (bs : List Int) (hbl : bs.length ≤ 140737488351232) (hv : IsF (fun g => N ≤ g) w (.slice ba bs.length bc) bs) (hNw : N ≤ w.heap.size) (hcap : bc ≤ maxLen) :
    Calls Try.prog 9 #[.pointer (some ⟨x, 0, none⟩), .agg #[.int .i64 2, .int .i64 kk, .slice ba bs.length bc, .bool ys]] w (DoesP ρ w x q k n m 2 X Y Cm Mn) := by
  have bx : Box ρ N w x w.heap.size q k n X Y tv cv ov mv Cm Mn 2 kk (.slice ba bs.length bc) bs ys (w.alloc (.cells #[.int .i64 2, .int .i64 kk, .slice ba bs.length bc, .bool ys] 29)) := Box.mk' h hv hNw
  have BX := hide bx
  have o0 := bx.o0
  have HI := hide hi
  have HN := hide hN
  have HB : Hid (m ≤ 4398046511104 ∧ Cm.length ≤ 4398046511104 ∧ Mn.length ≤ 4398046511104 ∧ bs.length ≤ 140737488351232 ∧ bc ≤ maxLen) := And.intro hm (And.intro hcl (And.intro hml (And.intro hbl hcap)))
  clear h hi hv hNw hN bx hm hcl hml hbl hcap
  go_enter Try.func9, Try.ntmps9
  go_upto_region 1 with fail
  obtain ⟨so, hso⟩ : ∃ so, so = w.heap.size := ⟨_, rfl⟩
  rw [← hso] at BX o0 ⊢
  generalize w.alloc (.cells #[.int .i64 2, .int .i64 kk, .slice ba bs.length bc, .bool ys] 29) = w0 at *
  clear hso
  obtain ⟨hX, gX, zX, _⟩ := HI.out.x
  obtain ⟨hY, gY, zY, _⟩ := HI.out.y
  have XT := hide (polls_any BX.out.t zX zY HI.out.bx HI.out.by' (by have := HB.out.1; omega) HB.out.2.1)
  clear zX zY
  go_wp2_with fail
  refine XT.out.mono ?_
  rintro _ w1 ⟨b, ρ1, tv1, cv1, ov1, L, rfl, t1, m1, p1, p2, p3⟩
  have F : Hid (DoesP ρ w x q k n m 2 X Y Cm Mn (.returned (.bool b)) w1) := by
    have i1 := HI.out.polls p1 p2
    exact ⟨b, ρ1, tv1, cv1, ov1, mv, _, _, _, Mn, rfl, t1, BX.out.m.trans m1, i1, by omega, fun _ => poll_r1, fun e => by subst e; exact ⟨p3 rfl, rfl⟩⟩
  clear t1 m1 p1 p2 p3 XT o0
  go_wp2
  go_ret
  exact F.out
set_option maxRecDepth 100000 in
set_option maxHeartbeats 4000000 in
theorem does_3 {ρ : Nat → Nat} {w : World} {x : Nat} {q k : Bl} {n m : Nat} {X Y : Rg} {tv cv ov mv : Value} {Cm Mn : List Int} (h : Two ρ w x q k n X Y tv cv ov mv Cm Mn) (hi : Inv n X Y Cm Mn m) (hm : m ≤ 4398046511104) (hcl : Cm.length ≤ 4398046511104) (hml : Mn.length ≤ 4398046511104) {N : Nat} (hN : ∀ g, ρ g ≠ 0 → N ≤ g) (kk : Int) (ys : Bool) (ba : Option Addr) (bc : Nat) (bs : List Int) (hbl : bs.length ≤ 140737488351232) (hv : IsF (fun g => N ≤ g) w (.slice ba bs.length bc) bs) (hNw : N ≤ w.heap.size) (hcap : bc ≤ maxLen) :
    Calls Try.prog 9 #[.pointer (some ⟨x, 0, none⟩), .agg #[.int .i64 3, .int .i64 kk, .slice ba bs.length bc, .bool ys]] w (DoesP ρ w x q k n m 3 X Y Cm Mn) := by
  have bx : Box ρ N w x w.heap.size q k n X Y tv cv ov mv Cm Mn 3 kk (.slice ba bs.length bc) bs ys (w.alloc (.cells #[.int .i64 3, .int .i64 kk, .slice ba bs.length bc, .bool ys] 29)) := Box.mk' h hv hNw
  have BX := hide bx
  have o0 := bx.o0
  have HI := hide hi
  have HN := hide hN
  have HB : Hid (m ≤ 4398046511104 ∧ Cm.length ≤ 4398046511104 ∧ Mn.length ≤ 4398046511104 ∧ bs.length ≤ 140737488351232 ∧ bc ≤ maxLen) := And.intro hm (And.intro hcl (And.intro hml (And.intro hbl hcap)))
  clear h hi hv hNw hN bx hm hcl hml hbl hcap
  go_enter Try.func9, Try.ntmps9
  go_upto_region 1 with fail
  obtain ⟨so, hso⟩ : ∃ so, so = w.heap.size := ⟨_, rfl⟩
  rw [← hso] at BX o0 ⊢
  generalize w.alloc (.cells #[.int .i64 3, .int .i64 kk, .slice ba bs.length bc, .bool ys] 29) = w0 at *
  clear hso
  obtain ⟨hX, gX, zX, _⟩ := HI.out.x
  obtain ⟨hY, gY, zY, _⟩ := HI.out.y
  have c2 := BX.out.t.p.c2
  have XT := hide (Reset_any BX.out.t.p.p zX.ok HI.out.bx (by have := HB.out.1; omega))
  have ZY := hide zY
  clear zX zY
  go_wp2_with fail
  refine XT.out.mono ?_
  rintro _ w1 ⟨rfl, p1, b1⟩
  have t1 := BX.out.t.prog (X' := X.reset n) b1 p1
  have m1 := BX.out.m.trans (Mv.of BX.out.t.lt b1 (fun g e => (BX.out.t.nx13 g e).1))
  have c5 := t1.c5
  have XR := hide (rReset_any t1.r ZY.out.sm ZY.out.cm HI.out.by' (by have := HB.out.1; omega))
  have T1 := hide t1
  have M1 := hide m1
  clear p1 b1 t1 m1 XT c2 o0
  go_wp2_with fail
  refine XR.out.mono ?_
  rintro _ w2 ⟨rfl, ρ2, tv2, cv2, r2, n2⟩
  have F : Hid (DoesP ρ w x q k n m 3 X Y Cm Mn (.returned (.bool true)) w2) := by
    have t2 := T1.out.ref n2 r2
    exact ⟨true, ρ2, tv2, cv2, _, _, _, _, Cm, Mn, rfl, t2, M1.out.trans (Mv.nx n2 t2.lt), ⟨HI.out.x.resets.mono (by omega), HI.out.y.resets.mono (by omega), HI.out.rc, HI.out.rm, (reset_bdd HI.out.bx HI.out.m1 HI.out.x.ok).mono (by omega), (reset_bdd HI.out.by' HI.out.m1 HI.out.y.ok).mono (by omega), by omega, HI.out.hy.reset⟩, by omega, fun _ => reset_r1, fun e => by subst e; exact ⟨rfl, rfl⟩⟩
  clear r2 n2 XR c5 T1 M1
  go_wp2
  go_ret
  exact F.out
set_option maxRecDepth 100000 in
set_option maxHeartbeats 4000000 in
theorem does_8 {ρ : Nat → Nat} {w : World} {x : Nat} {q k : Bl} {n m : Nat} {X Y : Rg} {tv cv ov mv : Value} {Cm Mn : List Int} (h : Two ρ w x q k n X Y tv cv ov mv Cm Mn) (hi : Inv n X Y Cm Mn m) (hm : m ≤ 4398046511104) (hcl : Cm.length ≤ 4398046511104) (hml : Mn.length ≤ 4398046511104) {N : Nat} (hN : ∀ g, ρ g ≠ 0 → N ≤ g) (kk : Int) (ys : Bool) (ba : Option Addr) (bc : Nat) (bs : List Int) (hbl : bs.length ≤ 140737488351232) (hv : IsF (fun g => N ≤ g) w (.slice ba bs.length bc) bs) (hNw : N ≤ w.heap.size) (hcap : bc ≤ maxLen) :
    Calls Try.prog 9 #[.pointer (some ⟨x, 0, none⟩), .agg #[.int .i64 8, .int .i64 kk, .slice ba bs.length bc, .bool ys]] w (DoesP ρ w x q k n m 8 X Y Cm Mn) := by
  have bx : Box ρ N w x w.heap.size q k n X Y tv cv ov mv Cm Mn 8 kk (.slice ba bs.length bc) bs ys (w.alloc (.cells #[.int .i64 8, .int .i64 kk, .slice ba bs.length bc, .bool ys] 29)) := Box.mk' h hv hNw
  have BX := hide bx
  have o0 := bx.o0
  have HI := hide hi
  have HN := hide hN
  have HB : Hid (m ≤ 4398046511104 ∧ Cm.length ≤ 4398046511104 ∧ Mn.length ≤ 4398046511104 ∧ bs.length ≤ 140737488351232 ∧ bc ≤ maxLen) := And.intro hm (And.intro hcl (And.intro hml (And.intro hbl hcap)))
  clear h hi hv hNw hN bx hm hcl hml hbl hcap
  go_enter Try.func9, Try.ntmps9
  go_upto_region 1 with fail
  obtain ⟨so, hso⟩ : ∃ so, so = w.heap.size := ⟨_, rfl⟩
  rw [← hso] at BX o0 ⊢
  generalize w.alloc (.cells #[.int .i64 8, .int .i64 kk, .slice ba bs.length bc, .bool ys] 29) = w0 at *
  clear hso
  have o1 := BX.out.o1
  have o2 := BX.out.o2
  have o3 := BX.out.o3
  have XT := hide (frees_mine BX.out.t HB.out.2.2.1 HI.out.bx HI.out.by' (by have := HB.out.1; omega) 8 kk (by omega) (.slice ba bs.length bc) ⟨_, _, _, rfl⟩ ys)
  go_wp2_with fail
  refine XT.out.mono ?_
  rintro _ w1 ⟨b, ρ1, ov1, mv1, X1, Y1, Cm1, Mn1, rfl, t1, m1, hw, hEq⟩
  have F : Hid (DoesP ρ w x q k n m 8 X Y Cm Mn (.returned (.bool b)) w1) := by
    rcases hw with ⟨rfl, rfl, rfl, rfl⟩ | ⟨id, j, rfl, rfl, hw⟩
    · exact ⟨b, ρ1, _, _, ov1, mv1, _, _, _, _, rfl, t1, BX.out.m.trans m1, HI.out.same (HI.out.x.mono (by omega)) (HI.out.y.mono (by omega)) rfl rfl, by omega, fun _ => rfl, fun e => ⟨hEq e, e⟩⟩
    · obtain ⟨i1, i3⟩ := HI.out.frees hw
      exact ⟨b, ρ1, _, _, ov1, mv1, _, _, _, _, rfl, t1, BX.out.m.trans m1, i1, i3, fun _ => rfl, fun e => by subst e; exact ⟨hEq rfl, rfl⟩⟩
  clear t1 m1 hw hEq XT o1 o2 o3 o0
  go_wp2
  go_ret
  exact F.out
set_option maxRecDepth 100000 in
set_option maxHeartbeats 4000000 in
theorem does_9 {ρ : Nat → Nat} {w : World} {x : Nat} {q k : Bl} {n m : Nat} {X Y : Rg} {tv cv ov mv : Value} {Cm Mn : List Int} (h : Two ρ w x q k n X Y tv cv ov mv Cm Mn) (hi : Inv n X Y Cm Mn m) (hm : m ≤ 4398046511104) (hcl : Cm.length ≤ 4398046511104) (hml : Mn.length ≤ 4398046511104) {N : Nat} (hN : ∀ g, ρ g ≠ 0 → N ≤ g) (kk : Int) (ys : Bool) (ba : Option Addr) (bc : Nat) (bs : List Int) (hbl : bs.length ≤ 140737488351232) (hv : IsF (fun g => N ≤ g) w (.slice ba bs.length bc) bs) (hNw : N ≤ w.heap.size) (hcap : bc ≤ maxLen) :
    Calls Try.prog 9 #[.pointer (some ⟨x, 0, none⟩), .agg #[.int .i64 9, .int .i64 kk, .slice ba bs.length bc, .bool ys]] w (DoesP ρ w x q k n m 9 X Y Cm Mn) := by
  have bx : Box ρ N w x w.heap.size q k n X Y tv cv ov mv Cm Mn 9 kk (.slice ba bs.length bc) bs ys (w.alloc (.cells #[.int .i64 9, .int .i64 kk, .slice ba bs.length bc, .bool ys] 29)) := Box.mk' h hv hNw
  have BX := hide bx
  have o0 := bx.o0
  have HI := hide hi
  have HN := hide hN
  have HB : Hid (m ≤ 4398046511104 ∧ Cm.length ≤ 4398046511104 ∧ Mn.length ≤ 4398046511104 ∧ bs.length ≤ 140737488351232 ∧ bc ≤ maxLen) := And.intro hm (And.intro hcl (And.intro hml (And.intro hbl hcap)))
  clear h hi hv hNw hN bx hm hcl hml hbl hcap
  go_enter Try.func9, Try.ntmps9
  go_upto_region 1 with fail
  obtain ⟨so, hso⟩ : ∃ so, so = w.heap.size := ⟨_, rfl⟩
  rw [← hso] at BX o0 ⊢
  generalize w.alloc (.cells #[.int .i64 9, .int .i64 kk, .slice ba bs.length bc, .bool ys] 29) = w0 at *
  clear hso
  have o1 := BX.out.o1
  have o2 := BX.out.o2
  have o3 := BX.out.o3
  have XT := hide (frees_come BX.out.t HB.out.2.1 HI.out.bx HI.out.by' (by have := HB.out.1; omega) 9 kk (by omega) (.slice ba bs.length bc) ⟨_, _, _, rfl⟩ ys)
  go_wp2_with fail
  refine XT.out.mono ?_
  rintro _ w1 ⟨b, ρ1, ov1, mv1, X1, Y1, Cm1, Mn1, rfl, t1, m1, hw, hEq⟩
  have F : Hid (DoesP ρ w x q k n m 9 X Y Cm Mn (.returned (.bool b)) w1) := by
    rcases hw with ⟨rfl, rfl, rfl, rfl⟩ | ⟨id, j, rfl, rfl, hw⟩
    · exact ⟨b, ρ1, _, _, ov1, mv1, _, _, _, _, rfl, t1, BX.out.m.trans m1, HI.out.same (HI.out.x.mono (by omega)) (HI.out.y.mono (by omega)) rfl rfl, by omega, fun _ => rfl, fun e => ⟨hEq e, e⟩⟩
    · obtain ⟨i1, i3⟩ := HI.out.frees hw
      exact ⟨b, ρ1, _, _, ov1, mv1, _, _, _, _, rfl, t1, BX.out.m.trans m1, i1, i3, fun _ => rfl, fun e => by subst e; exact ⟨hEq rfl, rfl⟩⟩
  clear t1 m1 hw hEq XT o1 o2 o3 o0
  go_wp2
  go_ret
  exact F.out
set_option maxRecDepth 100000 in
set_option maxHeartbeats 4000000 in
theorem does_x {ρ : Nat → Nat} {w : World} {x : Nat} {q k : Bl} {n m : Nat} {X Y : Rg} {tv cv ov mv : Value} {Cm Mn : List Int} (h : Two ρ w x q k n X Y tv cv ov mv Cm Mn) (hi : Inv n X Y Cm Mn m) (hm : m ≤ 4398046511104) (hcl : Cm.length ≤ 4398046511104) (hml : Mn.length ≤ 4398046511104) {N : Nat} (hN : ∀ g, ρ g ≠ 0 → N ≤ g) (kd : Int) (hkd : kd < 0 ∨ 9 < kd) (kk : Int) (ys : Bool) (ba : Option Addr) (bc : Nat) (bs : List Int) (hbl : bs.length ≤ 140737488351232) (hv : IsF (fun g => N ≤ g) w (.slice ba bs.length bc) bs) (hNw : N ≤ w.heap.size) (hcap : bc ≤ maxLen) :
    Calls Try.prog 9 #[.pointer (some ⟨x, 0, none⟩), .agg #[.int .i64 kd, .int .i64 kk, .slice ba bs.length bc, .bool ys]] w (DoesP ρ w x q k n m kd X Y Cm Mn) := by
  have bx : Box ρ N w x w.heap.size q k n X Y tv cv ov mv Cm Mn kd kk (.slice ba bs.length bc) bs ys (w.alloc (.cells #[.int .i64 kd, .int .i64 kk, .slice ba bs.length bc, .bool ys] 29)) := Box.mk' h hv hNw
  have BX := hide bx
  have o0 := bx.o0
  have HI := hide hi
  have HN := hide hN
  have HB : Hid (m ≤ 4398046511104 ∧ Cm.length ≤ 4398046511104 ∧ Mn.length ≤ 4398046511104 ∧ bs.length ≤ 140737488351232 ∧ bc ≤ maxLen) := And.intro hm (And.intro hcl (And.intro hml (And.intro hbl hcap)))
  have q0 : (kd == 0) = false := by simp; omega
  have q1 : (kd == 1) = false := by simp; omega
  have q2 : (kd == 2) = false := by simp; omega
  have q3 : (kd == 3) = false := by simp; omega
  have q4 : (kd == 4) = false := by simp; omega
  have q5 : (kd == 5) = false := by simp; omega
  have q6 : (kd == 6) = false := by simp; omega
  have q7 : (kd == 7) = false := by simp; omega
  have q8 : (kd == 8) = false := by simp; omega
  have q9 : (kd == 9) = false := by simp; omega
  clear h hi hv hNw hN bx hm hcl hml hbl hcap
  go_enter Try.func9, Try.ntmps9
  go_upto_region 1 with fail
  obtain ⟨so, hso⟩ : ∃ so, so = w.heap.size := ⟨_, rfl⟩
  rw [← hso] at BX o0 ⊢
  generalize w.alloc (.cells #[.int .i64 kd, .int .i64 kk, .slice ba bs.length bc, .bool ys] 29) = w0 at *
  clear hso
  have F : Hid (DoesP ρ w x q k n m kd X Y Cm Mn (.returned (.bool true)) w0) := ⟨true, ρ, _, _, _, _, X, Y, Cm, Mn, rfl, BX.out.t, BX.out.m, HI.out.same (HI.out.x.mono (by omega)) (HI.out.y.mono (by omega)) rfl rfl, by omega, fun _ => rfl, fun e => ⟨rfl, e⟩⟩
  go_wp2
  go_ret
  exact F.out
end Go.Proofs.Ytjkfjijnjkpbbaa
