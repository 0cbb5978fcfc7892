
/-
  A beginning, and Poll: who holds which buffer.
-/
import Derived.Test.YtjkfjijnjkpbbaaJ4
namespace Go.Proofs.Ytjkfjijnjkpbbaa
open Go.RowKit

theorem Hd.new (n : Nat) : Hd n ⟨(bg0 n).D, (bg0 n).B, sd0, (bg0 n).c⟩ (fun _ => 0) [] [] := by
  have r := bgD_r Dev.new
  have h : Hd n ⟨bgD Dev.new, none4, sd0, sd0⟩ (fun _ => 0) [] [] := by
    refine ⟨(Dev.Ok.new.wr 0 2).wr 0 1, r.2.2.2.2.1, r.2.2.2.2.2.1.trans rfl, by show (bgD Dev.new).r 6 < 4; rw [r.2.2.2.2.2.2]; omega, by decide, by decide, by decide, by decide, r.2.2.2.1, r.2.1, ⟨0, by decide, r.2.2.1, rfl, fun k f hf => by simp at hf⟩, ⟨by decide, r.1, fun k f hf => by simp at hf, fun k _ hk => by simp [sd0] at hk⟩, fun i _ => by simp [none4, sd0], fun z hz => by simp [sd0] at hz, fun z hz => by simp [sd0] at hz, fun i _ hm => by simp [sd0] at hm⟩
  exact (Hd.fills (x := ⟨bgD Dev.new, none4, sd0⟩) h).1

/-- many are let go -/
theorem frs_spec {n : Nat} : ∀ (l : List Int) (B : Nat → Buf), (∀ id ∈ l, 0 ≤ id ∧ id < n) → (∀ i, i < n → l.count (i : Int) ≤ (B i).refs) → ∀ i, i < n → (frs n B l i).refs = (B i).refs - l.count (i : Int) ∧ (frs n B l i).head = (B i).head ∧ (frs n B l i).data = (B i).data
  | [], B, _, _, i, _ => ⟨by simp [frs], rfl, rfl⟩
  | a :: l, B, hr, hc, i, hi => by
    have ha := hr a (by simp)
    obtain ⟨k, rfl⟩ : ∃ k : Nat, a = k := ⟨a.toNat, by omega⟩
    have hk : k < n := by omega
    have hck := hc k hk
    rw [List.count_cons_self] at hck
    have hu : usd n B (k : Int) = true := usd_nat hk (by omega)
    have eB : frB n B (k : Int) = upd B k { B k with refs := (B k).refs - 1 } := by unfold frB; rw [if_pos hu]; simp only [Int.toNat_natCast]
    have e : frs n B ((k : Int) :: l) = frs n (frB n B (k : Int)) l := rfl
    rw [e]
    obtain ⟨q1, q2, q3⟩ := frs_spec l (frB n B (k : Int)) (fun z hz => hr z (by simp [hz])) (fun m hm => by
      have := hc m hm
      rw [eB]
      by_cases e : m = k
      · subst e; rw [upd_same]; show _ ≤ (B m).refs - 1; omega
      · rw [upd_other _ _ _ _ e]; rw [List.count_cons_of_ne (by omega)] at this; exact this) i hi
    rw [q1, q2, q3, eB]
    by_cases e : i = k
    · subst e
      rw [upd_same, List.count_cons_self]
      exact ⟨by show (B i).refs - 1 - _ = _; omega, rfl, rfl⟩
    · rw [upd_other _ _ _ _ e, List.count_cons_of_ne (by omega)]
      exact ⟨rfl, rfl, rfl⟩

theorem stB_of {n i : Nat} {B : Nat → Buf} {f : List Int} (hi : i < n) (hr : (B i).refs = 1) (hf : f.length ≤ 288) : stB n B (i : Int) f = upd B i { B i with data := f, head := [] } := by
  have hu : usd n B (i : Int) = true := usd_nat hi (by omega)
  have ho : owE n B (i : Int) = 0 := by unfold owE; rw [if_pos hu, if_neg (by simp only [Int.toNat_natCast]; omega)]
  have hs : stE n B (i : Int) f = 0 := by unfold stE; rw [if_pos ho, if_neg (by omega)]
  unfold stB
  rw [if_pos hs]
  simp only [Int.toNat_natCast]

section
variable {n : Nat} {X : Rg} {hl : Nat → Nat} {G P : List (List Int)}

theorem Hd.one (h : Hd n X hl G P) {i : Nat} (hi : i < n) (hm : (i : Int) ∈ X.c.ids) : X.c.ids.count (i : Int) = 1 ∧ X.s.ids.count (i : Int) = 0 ∧ hl i = 0 := by
  have h1 := h.refs i hi
  have h2 := (h.cb i hi hm).1
  have h3 := List.count_pos_iff.2 hm
  exact ⟨by omega, by omega, by omega⟩

theorem Hd.got (h : Hd n X hl G P) : X.got = G.length := by
  obtain ⟨a1, a2, _, _⟩ := h.h2
  have c16 := h.cf
  have c15 := h.cm
  unfold Rg.got Sd.upto span
  rw [a2, Int.toNat_natCast]
  omega

theorem Hd.sent (h : Hd n X hl G P) : ∃ j, X.sent = j ∧ j ≤ X.s.ids.length ∧ X.D.r 4 = (((X.s.first + j) % 16 : Nat) : Int) ∧ P.length = X.s.ids.length - j ∧ ∀ k f, P[k]? = some f → X.D.txf ((X.s.first + j + k) % 16) = f := by
  obtain ⟨j, b1, b2, b3, b4⟩ := h.h4
  have c16 := h.sf
  have c15 := h.sm
  refine ⟨j, ?_, b1, b2, b3, b4⟩
  unfold Rg.sent Sd.upto span
  rw [b2, Int.toNat_natCast]
  omega

theorem rd6_same (D : Dev) : (D.rdD 6).held = D.held ∧ (D.rdD 6).rxf = D.rxf ∧ (D.rdD 6).bad = D.bad ∧ (D.rdD 6).txf = D.txf ∧ (D.rdD 6).room = D.room ∧ (D.rdD 6).r 6 = 0 := by
  unfold Dev.rdD; rw [if_pos rfl]; exact ⟨rfl, rfl, rfl, rfl, rfl, upd_same D.r 6 0⟩

/-- what the device tells of what came -/
theorem Hd.rx (h : Hd n X hl G P) {k : Nat} {f : List Int} (hf : G[k]? = some f) : (X.D.rdD 6).rxE (((X.c.first + k) % 16 : Nat) : Int) = 0 ∧ (X.D.rdD 6).rxF (((X.c.first + k) % 16 : Nat) : Int) = f ∧ (X.D.rdD 6).rxB (((X.c.first + k) % 16 : Nat) : Int) = false ∧ f.length ≤ 274 := by
  obtain ⟨s1, s2, s3, _⟩ := rd6_same X.D
  obtain ⟨t1, t2, t3, t4⟩ := h.h2.2.2.1 k f hf
  have hp : place (((X.c.first + k) % 16 : Nat) : Int) = true := by unfold place; simp; omega
  have e0 : (X.D.rdD 6).rxE (((X.c.first + k) % 16 : Nat) : Int) = 0 := by unfold Dev.rxE; rw [if_pos hp, s1, Int.toNat_natCast, if_pos t1]
  refine ⟨e0, ?_, ?_, t4⟩
  · unfold Dev.rxF; rw [if_pos e0, s2, Int.toNat_natCast]; exact t2
  · unfold Dev.rxB; rw [if_pos e0, s3, Int.toNat_natCast]; exact t3

theorem Hd.come (h : Hd n X hl G P) : ∀ k, k ≤ G.length → rcC (X.D.rdD 6) X.c k = (X.c.ids.take k).map (fun z => (z, false))
  | 0, _ => rfl
  | k + 1, hk => by
    have hk2 : k < X.c.ids.length := Nat.lt_of_lt_of_le hk h.h2.1
    obtain ⟨f, hf⟩ : ∃ f, G[k]? = some f := ⟨_, List.getElem?_eq_getElem (by omega)⟩
    unfold rcC
    rw [h.come k (by omega), (h.rx hf).2.2.1, take_snoc hk2, List.map_append]
    rfl

/-- what is laid into the buffers -/
theorem Hd.laid (h : Hd n X hl G P) {B : Nat → Buf} (hB : ∀ i, i < n → (i : Int) ∈ X.c.ids → (B i).refs = 1) : ∀ k, k ≤ G.length → (∀ i, (rcB n (X.D.rdD 6) X.c B k i).refs = (B i).refs) ∧ (∀ i : Nat, (i : Int) ∉ X.c.ids.take k → rcB n (X.D.rdD 6) X.c B k i = B i) ∧
    ∀ m f, m < k → G[m]? = some f → ∃ i, i < n ∧ X.c.ids[m]? = some (i : Int) ∧ (rcB n (X.D.rdD 6) X.c B k i).head = [] ∧ (rcB n (X.D.rdD 6) X.c B k i).data = f
  | 0, _ => ⟨fun _ => rfl, fun _ _ => rfl, fun m f hm => by omega⟩
  | k + 1, hk => by
    obtain ⟨q1, q2, q3⟩ := h.laid hB k (by omega)
    have hk2 : k < X.c.ids.length := Nat.lt_of_lt_of_le hk h.h2.1
    obtain ⟨f, hf⟩ : ∃ f, G[k]? = some f := ⟨_, List.getElem?_eq_getElem (by omega)⟩
    obtain ⟨z, hz⟩ : ∃ z, X.c.ids[k]? = some z := ⟨_, List.getElem?_eq_getElem hk2⟩
    have hzm : z ∈ X.c.ids := List.mem_of_getElem? hz
    have hzr := h.rc z hzm
    obtain ⟨i, rfl⟩ : ∃ i : Nat, z = i := ⟨z.toNat, by omega⟩
    have hi : i < n := by omega
    have e : rcB n (X.D.rdD 6) X.c B (k + 1) = upd (rcB n (X.D.rdD 6) X.c B k) i { rcB n (X.D.rdD 6) X.c B k i with data := f, head := [] } := by
      show stB n (rcB n (X.D.rdD 6) X.c B k) (X.c.ids[k]?.getD 0) _ = _
      rw [hz, (h.rx hf).2.1]
      exact stB_of hi ((q1 i).trans (hB i hi hzm)) (by have := (h.rx hf).2.2.2; omega)
    have nt : (i : Int) ∉ X.c.ids.take k := fun hm => by
      have c1 := (h.one hi hzm).1
      have : X.c.ids.count (i : Int) = (X.c.ids.take k).count (i : Int) + (X.c.ids.drop k).count (i : Int) := by rw [← List.count_append, List.take_append_drop]
      have p1 := List.count_pos_iff.2 hm
      have p2 : 0 < (X.c.ids.drop k).count (i : Int) := List.count_pos_iff.2 (List.mem_of_getElem? (i := 0) (by rw [List.getElem?_drop]; exact hz))
      omega
    rw [e]
    refine ⟨fun m => ?_, fun m hm => ?_, fun m g hm hg => ?_⟩
    · by_cases em : m = i
      · subst em; rw [upd_same]; exact q1 m
      · rw [upd_other _ _ _ _ em]; exact q1 m
    · rw [take_snoc hk2, hz] at hm
      have em : m ≠ i := fun em => hm (by subst em; simp)
      rw [upd_other _ _ _ _ em]
      exact q2 m (fun h' => hm (List.mem_append.2 (.inl h')))
    · by_cases em : m = k
      · subst em
        rw [hf] at hg
        cases hg
        exact ⟨i, hi, hz, by rw [upd_same], by rw [upd_same]⟩
      · obtain ⟨i', r1, r2, r3, r4⟩ := q3 m g (by omega) hg
        have ne : i' ≠ i := fun e' => nt (by subst e'; exact List.mem_of_getElem? (i := m) (by rw [List.getElem?_take, if_pos (by omega)]; exact r2))
        exact ⟨i', r1, r2, by rw [upd_other _ _ _ _ ne]; exact r3, by rw [upd_other _ _ _ _ ne]; exact r4⟩

/-- Poll -/
theorem Hd.polls (h : Hd n X hl G P) : ¬ X.down ∧ X.come = (X.c.ids.take G.length).map (fun z => (z, false)) ∧ Hd n (X.polled n) (fun i => hl i + (X.c.ids.take G.length).count (i : Int)) [] P ∧
    ∀ (m : Nat) (f : List Int), G[m]? = some f → ∃ i : Nat, i < n ∧ X.c.ids[m]? = some (i : Int) ∧ 0 < ((X.polled n).B i).refs ∧ ((X.polled n).B i).head = [] ∧ ((X.polled n).B i).data = f := by
  obtain ⟨j, hj, b1, b2, b3, b4⟩ := h.sent
  obtain ⟨a1, a2, a3, a4⟩ := h.h2
  have hg := h.got
  have ev := h.ev
  have ev2 := h.ok.ev
  have nd : ¬ X.down := fun hd => by have := hd.1; omega
  obtain ⟨s1, s2, s3, s4, s5, s6⟩ := rd6_same X.D
  have rk : ∀ k, k ≠ 6 → (X.D.rdD 6).r k = X.D.r k := fun k hk => rd6_r X.D k hk
  have B1 := frs_spec (n := n) (X.s.ids.take j) X.B (fun z hz => h.rs z (List.mem_of_mem_take hz)) (fun i hi => by
    have := h.refs i hi
    have c1 : X.s.ids.count (i : Int) = (X.s.ids.take j).count (i : Int) + (X.s.ids.drop j).count (i : Int) := by rw [← List.count_append, List.take_append_drop]
    omega)
  have BC : ∀ i, i < n → (i : Int) ∈ X.c.ids → (frs n X.B (X.s.ids.take j) i).refs = 1 := fun i hi hm => by
    have h1 := (h.one hi hm).2.1
    have c1 : X.s.ids.count (i : Int) = (X.s.ids.take j).count (i : Int) + (X.s.ids.drop j).count (i : Int) := by rw [← List.count_append, List.take_append_drop]
    rw [(B1 i hi).1, (h.cb i hi hm).1]; omega
  obtain ⟨q1, q2, q3⟩ := h.laid BC G.length (Nat.le_refl _)
  have sf := h.sf
  have sm := h.sm
  have cf := h.cf
  have cm := h.cm
  have h5 := h.h5
  have h3 := h.h3
  unfold Sd.nx at h5 h3
  have key : Hd n ⟨X.D.rdD 6, rcB n (X.D.rdD 6) X.c (frs n X.B (X.s.ids.take j)) G.length, X.s.cut j, X.c.cut G.length⟩ (fun i => hl i + (X.c.ids.take G.length).count (i : Int)) [] P := by
    refine ⟨h.ok.rd 6, (rk 0 (by omega)).trans h.on, (rk 1 (by omega)).trans h.up, by show (X.D.rdD 6).r 6 < 4; rw [s6]; omega, Nat.mod_lt _ (by omega), by show (X.s.ids.drop j).length ≤ 15; rw [List.length_drop]; omega, Nat.mod_lt _ (by omega), by show (X.c.ids.drop G.length).length ≤ 15; rw [List.length_drop]; omega, ?_, ?_, ⟨0, by omega, ?_, ?_, ?_⟩, ⟨by simp, ?_, fun k f hf => by simp at hf, fun k k1 k2 => ?_⟩, fun i hi => ?_, fun z hz => h.rs z (List.mem_of_mem_drop hz), fun z hz => h.rc z (List.mem_of_mem_drop hz), fun i hi hm => ?_⟩
    · show (X.D.rdD 6).r 5 = (((X.s.cut j).nx : Nat) : Int)
      rw [rk 5 (by omega), h5]
      unfold Sd.nx Sd.cut
      simp only [List.length_drop]
      omega
    · show (X.D.rdD 6).r 3 = (((X.c.cut G.length).nx : Nat) : Int)
      rw [rk 3 (by omega), h3]
      unfold Sd.nx Sd.cut
      simp only [List.length_drop]
      omega
    · show (X.D.rdD 6).r 4 = ((((X.s.first + j) % 16 + 0) % 16 : Nat) : Int)
      rw [rk 4 (by omega), b2]; omega
    · show P.length = (X.s.ids.drop j).length - 0
      rw [List.length_drop, b3]; omega
    · intro k f hf
      show (X.D.rdD 6).txf (((X.s.first + j) % 16 + 0 + k) % 16) = f
      rw [s4, show ((X.s.first + j) % 16 + 0 + k) % 16 = (X.s.first + j + k) % 16 by omega]
      exact b4 k f hf
    · show (X.D.rdD 6).r 2 = ((((X.c.first + G.length) % 16 + 0) % 16 : Nat) : Int)
      rw [rk 2 (by omega), a2]; omega
    · have k2 : k < (X.c.ids.drop G.length).length := k2
      rw [List.length_drop] at k2
      show (X.D.rdD 6).room (((X.c.first + G.length) % 16 + k) % 16) = 274
      rw [s5, show ((X.c.first + G.length) % 16 + k) % 16 = (X.c.first + (G.length + k)) % 16 by omega]
      exact a4 (G.length + k) (by omega) (by omega)
    · show (rcB n (X.D.rdD 6) X.c (frs n X.B (X.s.ids.take j)) G.length i).refs = hl i + (X.c.ids.take G.length).count (i : Int) + (X.s.ids.drop j).count (i : Int) + (X.c.ids.drop G.length).count (i : Int)
      rw [q1 i, (B1 i hi).1]
      have h1 := h.refs i hi
      have c1 : X.s.ids.count (i : Int) = (X.s.ids.take j).count (i : Int) + (X.s.ids.drop j).count (i : Int) := by rw [← List.count_append, List.take_append_drop]
      have c2 : X.c.ids.count (i : Int) = (X.c.ids.take G.length).count (i : Int) + (X.c.ids.drop G.length).count (i : Int) := by rw [← List.count_append, List.take_append_drop]
      omega
    · have hm : (i : Int) ∈ X.c.ids.drop G.length := hm
      have hmc : (i : Int) ∈ X.c.ids := List.mem_of_mem_drop hm
      have c2 : X.c.ids.count (i : Int) = (X.c.ids.take G.length).count (i : Int) + (X.c.ids.drop G.length).count (i : Int) := by rw [← List.count_append, List.take_append_drop]
      have p2 := List.count_pos_iff.2 hm
      have nt : (i : Int) ∉ X.c.ids.take G.length := fun h' => by
        have p1 := List.count_pos_iff.2 h'
        have := (h.one hi hmc).1
        omega
      show (rcB n (X.D.rdD 6) X.c (frs n X.B (X.s.ids.take j)) G.length i).refs = 1 ∧ (rcB n (X.D.rdD 6) X.c (frs n X.B (X.s.ids.take j)) G.length i).head = [] ∧ (rcB n (X.D.rdD 6) X.c (frs n X.B (X.s.ids.take j)) G.length i).data = []
      rw [q2 i nt, BC i hi hmc, (B1 i hi).2.1, (B1 i hi).2.2]
      exact ⟨rfl, (h.cb i hi hmc).2.1, (h.cb i hi hmc).2.2⟩
  have er : X.ready n = ⟨X.D.rdD 6, rcB n (X.D.rdD 6) X.c (frs n X.B (X.s.ids.take j)) G.length, X.c.cut G.length⟩ := by unfold Rg.ready; rw [hg, hj]
  have ep : X.polled n = ⟨(flF n (X.ready n)).D, (flF n (X.ready n)).B, X.s.cut j, (flF n (X.ready n)).c⟩ := by unfold Rg.polled; rw [hj]
  obtain ⟨f1, f2⟩ := Hd.fills (x := X.ready n) (s := X.s.cut j) (by rw [er]; exact key)
  refine ⟨nd, by unfold Rg.come; rw [hg]; exact h.come _ (Nat.le_refl _), by rw [ep]; exact f1, fun m f hf => ?_⟩
  obtain ⟨i, r1, r2, r3, r4⟩ := q3 m f (List.getElem?_eq_some_iff.1 hf).1 hf
  have hm : (i : Int) ∈ X.c.ids := List.mem_of_getElem? r2
  have hr1 : (rcB n (X.D.rdD 6) X.c (frs n X.B (X.s.ids.take j)) G.length i).refs = 1 := (q1 i).trans (BC i r1 hm)
  have eB : (X.polled n).B i = rcB n (X.D.rdD 6) X.c (frs n X.B (X.s.ids.take j)) G.length i := by
    rw [ep]
    show (flF n (X.ready n)).B i = _
    have := f2 i (by rw [er]; show (rcB n (X.D.rdD 6) X.c (frs n X.B (X.s.ids.take j)) G.length i).refs ≠ 0; omega)
    rw [this, er]
  exact ⟨i, r1, r2, by rw [eB]; omega, by rw [eB]; exact r3, by rw [eB]; exact r4⟩
end
end Go.Proofs.Ytjkfjijnjkpbbaa
