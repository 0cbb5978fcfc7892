
/-
  Send, fill and Poll: who holds which buffer.
-/
import Derived.Test.YtjkfjijnjkpbbaaJ3
namespace Go.Proofs.Ytjkfjijnjkpbbaa
open Go.RowKit

theorem wr5 (D : Dev) (v : Nat) (hv : v < 16) : D.wrD 5 (v : Int) = D.post (v : Int) := by
  have hp : place (v : Int) = true := by unfold place; simp; omega
  unfold Dev.wrD
  simp [hp]
theorem wr3 (D : Dev) (v : Nat) (hv : v < 16) : D.wrD 3 (v : Int) = { D with r := upd D.r 3 (v : Int) } := by
  have hp : place (v : Int) = true := by unfold place; simp; omega
  unfold Dev.wrD
  simp [hp]

/-- Send -/
theorem Hd.sends {n : Nat} {X : Rg} {hl : Nat → Nat} {G P : List (List Int)} (h : Hd n X hl G P) (id : Int) : (sdE n X.D X.B X.s id = 0 ∧ usd n X.B id = true ∧ Hd n ⟨sdD n X.D X.B X.s id, sdB n X.D X.B X.s id, sdS n X.D X.B X.s id, X.c⟩ hl G (P ++ [fr X.B id])) ∨ (sdE n X.D X.B X.s id ≠ 0 ∧ Hd n ⟨sdD n X.D X.B X.s id, sdB n X.D X.B X.s id, sdS n X.D X.B X.s id, X.c⟩ hl G P) := by
  by_cases e0 : sdE n X.D X.B X.s id = 0
  · left
    have hu : usd n X.B id = true := by
      cases hu : usd n X.B id with
      | true => rfl
      | false => unfold sdE at e0; rw [hu, if_neg (by simp)] at e0; omega
    refine ⟨e0, hu, ?_⟩
    unfold sdD sdB sdS
    rw [if_pos e0, if_pos e0, if_pos e0]
    obtain ⟨i, rfl, hi, hr⟩ := usd_yes hu
    unfold sdE at e0
    rw [if_pos hu, if_neg (by rw [h.up]; omega)] at e0
    have hs15 : ¬ X.s.ids.length = 15 := fun e => by rw [if_pos e] at e0; omega
    rw [if_neg hs15] at e0
    have s16 := h.sf
    have s15 := h.sm
    have nx16 : X.s.nx < 16 := Nat.mod_lt _ (by omega)
    have px16 : (X.s.put (i : Int)).nx < 16 := Nat.mod_lt _ (by omega)
    have fne : (fr X.B (i : Int)).length ≠ 0 := fun e => by
      unfold Dev.stE at e0
      rw [if_pos e] at e0
      split at e0 <;> omega
    have nc : (i : Int) ∉ X.c.ids := fun hm => by
      obtain ⟨_, q1, q2⟩ := h.cb i hi hm
      apply fne
      unfold fr
      simp only [Int.toNat_natCast, q1, q2]
      rfl
    have ed : (X.D.stD X.s.nx (fr X.B (i : Int))).wrD 5 ((X.s.put (i : Int)).nx : Int) = Dev.post { X.D with txf := upd X.D.txf X.s.nx (fr X.B (i : Int)) } ((X.s.put (i : Int)).nx : Int) := by
      rw [wr5 _ _ px16]
      unfold Dev.stD
      rw [if_pos e0, Int.toNat_natCast]
    have okD : ((X.D.stD X.s.nx (fr X.B (i : Int))).wrD 5 ((X.s.put (i : Int)).nx : Int)).Ok := (h.ok.st _ _).wr _ _
    rw [ed] at okD ⊢
    have hB : hoB n X.B (i : Int) = upd X.B i { X.B i with refs := (X.B i).refs + 1 } := by unfold hoB; rw [if_pos hu]; simp only [Int.toNat_natCast]
    have hrk : ∀ k, k ≠ 5 → (Dev.post { X.D with txf := upd X.D.txf X.s.nx (fr X.B (i : Int)) } ((X.s.put (i : Int)).nx : Int)).r k = X.D.r k := fun k hk => upd_other _ _ _ _ hk
    obtain ⟨j, b1, b2, b3, b4⟩ := h.h4
    obtain ⟨a1, a2, a3, a4⟩ := h.h2
    have pl : (X.s.put (i : Int)).ids.length = X.s.ids.length + 1 := by simp [Sd.put]
    refine ⟨okD, (hrk 0 (by omega)).trans h.on, (hrk 1 (by omega)).trans h.up, by show Dev.r _ 6 < 4; rw [hrk 6 (by omega)]; exact h.ev, s16, by show (X.s.put (i : Int)).ids.length ≤ 15; rw [pl]; omega, h.cf, h.cm, (by show upd X.D.r 5 ((X.s.put (i : Int)).nx : Int) 5 = _; rw [upd_same]), (hrk 3 (by omega)).trans h.h3, ⟨j, ?_, (hrk 4 (by omega)).trans b2, ?_, ?_⟩, ⟨a1, (hrk 2 (by omega)).trans a2, a3, a4⟩, fun k hk => ?_, fun x hx => ?_, h.rc, fun k hk hm => ?_⟩
    · show j ≤ (X.s.put (i : Int)).ids.length; rw [pl]; omega
    · show (P ++ [_]).length = (X.s.put (i : Int)).ids.length - j
      rw [pl, List.length_append, b3]; simp; omega
    · intro k f hf
      show upd X.D.txf X.s.nx (fr X.B (i : Int)) ((X.s.first + j + k) % 16) = f
      by_cases hk : k < P.length
      · rw [List.getElem?_append_left hk] at hf
        rw [upd_other _ _ _ _ (by unfold Sd.nx; omega)]
        exact b4 k f hf
      · have hk2 : k < (P ++ [fr X.B (i : Int)]).length := (List.getElem?_eq_some_iff.1 hf).1
        simp at hk2
        obtain rfl : k = P.length := by omega
        rw [List.getElem?_append_right (by omega), Nat.sub_self] at hf
        have hf : fr X.B (i : Int) = f := by simpa using hf
        rw [show (X.s.first + j + P.length) % 16 = X.s.nx by unfold Sd.nx; rw [b3]; congr 1; omega, upd_same]
        exact hf
    · show (hoB n X.B (i : Int) k).refs = hl k + (X.s.put (i : Int)).ids.count (k : Int) + X.c.ids.count (k : Int)
      have hk1 := h.refs k hk
      rw [hB]
      unfold Sd.put
      rw [List.count_append]
      by_cases e : k = i
      · subst e
        rw [upd_same]
        show (X.B k).refs + 1 = _
        rw [hk1, List.count_singleton_self]; omega
      · rw [upd_other _ _ _ _ e, hk1, List.count_singleton, if_neg (by simp; omega)]; omega
    · have hx : x ∈ X.s.ids ++ [(i : Int)] := hx
      rcases List.mem_append.1 hx with h1 | h1
      · exact h.rs x h1
      · rw [List.mem_singleton.1 h1]; omega
    · show (hoB n X.B (i : Int) k).refs = 1 ∧ (hoB n X.B (i : Int) k).head = [] ∧ (hoB n X.B (i : Int) k).data = []
      rw [hB, upd_other _ _ _ _ (by rintro rfl; exact nc hm)]
      exact h.cb k hk hm
  · right
    refine ⟨e0, ?_⟩
    unfold sdD sdB sdS
    rw [if_neg e0, if_neg e0, if_neg e0]
    exact h

/-- the device as it is when its tail stands behind what lies ready -/
def Fl.fin (x : Fl) : Dev := { x.D with r := upd x.D.r 3 (x.c.nx : Int) }

/-- one more buffer lies ready -/
theorem Hd.fillS {n : Nat} {x y : Fl} {s : Sd} {hl : Nat → Nat} {P : List (List Int)} (h : Hd n ⟨x.fin, x.B, s, x.c⟩ hl [] P) (hy : flS n x = some y) {m0 : Nat} (hm0 : m0 ≤ x.c.ids.length) (h2 : x.D.r 2 = (x.c.first : Int)) (h3 : x.D.r 3 = (((x.c.first + m0) % 16 : Nat) : Int)) :
    Hd n ⟨y.fin, y.B, s, y.c⟩ hl [] P ∧ y.D.r = x.D.r ∧ y.c.first = x.c.first ∧ x.c.ids.length ≤ y.c.ids.length ∧ ∀ i, (x.B i).refs ≠ 0 → y.B i = x.B i := by
  unfold flS at hy
  split at hy
  · rename_i hlt
    split at hy
    · cases hy
    · rename_i i hg
      cases hy
      obtain ⟨hi, h0, _⟩ := gt_some hg
      obtain ⟨nc, ns, hl0⟩ := h.free hi h0
      have c16 : x.c.first < 16 := h.cf
      have nx16 : x.c.nx < 16 := Nat.mod_lt _ (by omega)
      have pl : (x.c.put (i : Int)).ids.length = x.c.ids.length + 1 := by simp [Sd.put]
      have px16 : (x.c.put (i : Int)).nx < 16 := Nat.mod_lt _ (by omega)
      have se : x.D.srE (x.c.nx : Int) 274 = 0 := srE_ok c16 hlt hm0 h2 h3
      have ed : x.D.srD (x.c.nx : Int) 274 = { x.D with room := upd x.D.room x.c.nx 274, held := upd x.D.held x.c.nx false, rxf := upd x.D.rxf x.c.nx [], bad := upd x.D.bad x.c.nx false } := by unfold Dev.srD; rw [if_pos se]; simp only [Int.toNat_natCast]
      refine ⟨?_, srD_r _ _ _, rfl, by show _ ≤ (x.c.put (i : Int)).ids.length; rw [pl]; omega, fun k hk => ?_⟩
      · obtain ⟨j, b1, b2, b3, b4⟩ := h.h4
        obtain ⟨a1, a2, a3, a4⟩ := h.h2
        have okD : (Fl.fin ⟨x.D.srD (x.c.nx : Int) 274, upd x.B i ⟨1, [], []⟩, x.c.put (i : Int)⟩).Ok := by
          have o1 := (h.ok.sr (x.c.nx : Int) 274)
          have o2 : Dev.Ok (x.fin.srD (x.c.nx : Int) 274) := o1
          have ok1 := h.ok
          unfold Fl.fin
          show Dev.Ok { x.D.srD (x.c.nx : Int) 274 with r := upd (x.D.srD (x.c.nx : Int) 274).r 3 ((x.c.put (i : Int)).nx : Int) }
          rw [ed]
          show Dev.Ok { x.D with r := upd x.D.r 3 ((x.c.put (i : Int)).nx : Int), room := upd x.D.room x.c.nx 274, held := upd x.D.held x.c.nx false, rxf := upd x.D.rxf x.c.nx [], bad := upd x.D.bad x.c.nx false }
          have k1 := ok1.ctl
          have k2 := ok1.link
          have k3 := ok1.ring
          have k4 := ok1.ev
          have k5 := ok1.txf
          have k6 := ok1.room
          have k7 := ok1.rxf
          refine ⟨k1, k2, fun k q1 q2 => ?_, k4, k5, fun k q => ?_, fun k q => ?_⟩
          · show 0 ≤ upd x.D.r 3 _ k ∧ upd x.D.r 3 _ k ≤ 15
            by_cases e : k = 3
            · subst e; rw [upd_same]; omega
            · rw [upd_other _ _ _ _ e]
              have := k3 k q1 q2
              have e2 : upd x.D.r 3 (x.c.nx : Int) k = x.D.r k := upd_other _ _ _ _ e
              rw [← e2]; exact this
          · show upd x.D.room x.c.nx 274 k ≤ 65535
            by_cases e : k = x.c.nx
            · subst e; rw [upd_same]; omega
            · rw [upd_other _ _ _ _ e]; exact k6 k q
          · show (upd x.D.rxf x.c.nx [] k).length ≤ 65535
            by_cases e : k = x.c.nx
            · subst e; rw [upd_same]; simp
            · rw [upd_other _ _ _ _ e]; exact k7 k q
        have er : (Fl.fin ⟨x.D.srD (x.c.nx : Int) 274, upd x.B i ⟨1, [], []⟩, x.c.put (i : Int)⟩).r = upd x.D.r 3 ((x.c.put (i : Int)).nx : Int) := by show upd (x.D.srD (x.c.nx : Int) 274).r 3 _ = _; rw [srD_r]
        have hrk : ∀ k, k ≠ 3 → (Fl.fin ⟨x.D.srD (x.c.nx : Int) 274, upd x.B i ⟨1, [], []⟩, x.c.put (i : Int)⟩).r k = x.fin.r k := fun k hk => by rw [er, upd_other _ _ _ _ hk]; exact (upd_other _ _ _ _ hk).symm
        refine ⟨okD, (hrk 0 (by omega)).trans h.on, (hrk 1 (by omega)).trans h.up, by show Dev.r _ 6 < 4; rw [hrk 6 (by omega)]; exact h.ev, h.sf, h.sm, c16, by show (x.c.put (i : Int)).ids.length ≤ 15; rw [pl]; omega, (hrk 5 (by omega)).trans h.h5, by show Dev.r _ 3 = _; rw [er, upd_same], ⟨j, b1, (hrk 4 (by omega)).trans b2, b3, fun k f hf => ?_⟩, ⟨by simp, (hrk 2 (by omega)).trans a2, fun k f hf => by simp at hf, fun k k1 k2 => ?_⟩, fun k hk => ?_, h.rs, fun z hz => ?_, fun k hk hm => ?_⟩
        · show (x.D.srD (x.c.nx : Int) 274).txf _ = f
          rw [ed]; exact b4 k f hf
        · show (x.D.srD (x.c.nx : Int) 274).room ((x.c.first + k) % 16) = 274
          rw [ed]
          show upd x.D.room x.c.nx 274 _ = 274
          have k2 : k < (x.c.put (i : Int)).ids.length := k2
          rw [pl] at k2
          by_cases e : k = x.c.ids.length
          · subst e; rw [show (x.c.first + x.c.ids.length) % 16 = x.c.nx from rfl, upd_same]
          · rw [upd_other _ _ _ _ (by unfold Sd.nx; omega)]
            exact a4 k (by simp) (show k < x.c.ids.length by omega)
        · show (upd x.B i ⟨1, [], []⟩ k).refs = hl k + s.ids.count (k : Int) + (x.c.put (i : Int)).ids.count (k : Int)
          have hk1 : (x.B k).refs = hl k + s.ids.count (k : Int) + x.c.ids.count (k : Int) := h.refs k hk
          unfold Sd.put
          rw [List.count_append]
          by_cases e : k = i
          · subst e
            rw [upd_same, List.count_singleton_self]
            have h0' : (x.B k).refs = 0 := h0
            show 1 = _
            omega
          · rw [upd_other _ _ _ _ e, hk1, List.count_singleton, if_neg (by simp; omega)]; omega
        · have hz : z ∈ x.c.ids ++ [(i : Int)] := hz
          rcases List.mem_append.1 hz with q | q
          · exact h.rc z q
          · rw [List.mem_singleton.1 q]; omega
        · show (upd x.B i ⟨1, [], []⟩ k).refs = 1 ∧ (upd x.B i ⟨1, [], []⟩ k).head = [] ∧ (upd x.B i ⟨1, [], []⟩ k).data = []
          by_cases e : k = i
          · subst e; rw [upd_same]; exact ⟨rfl, rfl, rfl⟩
          · have hm : (k : Int) ∈ x.c.ids ++ [(i : Int)] := hm
            rw [upd_other _ _ _ _ e]
            exact h.cb k hk (by
              rcases List.mem_append.1 hm with q | q
              · exact q
              · exact absurd (List.mem_singleton.1 q) (by omega))
      · show upd x.B i ⟨1, [], []⟩ k = x.B k
        rw [upd_other _ _ _ _ (by rintro rfl; exact hk h0)]
  · cases hy

theorem Hd.fillN {n : Nat} {s : Sd} {hl : Nat → Nat} {P : List (List Int)} {m0 : Nat} : ∀ (k : Nat) (x : Fl), Hd n ⟨x.fin, x.B, s, x.c⟩ hl [] P → m0 ≤ x.c.ids.length → x.D.r 2 = (x.c.first : Int) → x.D.r 3 = (((x.c.first + m0) % 16 : Nat) : Int) →
    Hd n ⟨(flN n k x).fin, (flN n k x).B, s, (flN n k x).c⟩ hl [] P ∧ (flN n k x).D.r = x.D.r ∧ (flN n k x).c.first = x.c.first ∧ x.c.ids.length ≤ (flN n k x).c.ids.length ∧ ∀ i, (x.B i).refs ≠ 0 → (flN n k x).B i = x.B i
  | 0, _, h, _, _, _ => ⟨h, rfl, rfl, Nat.le_refl _, fun _ _ => rfl⟩
  | k + 1, x, h, hm0, h2, h3 => by
    cases hy : flS n x with
    | none => rw [flN_stop hy]; exact ⟨h, rfl, rfl, Nat.le_refl _, fun _ _ => rfl⟩
    | some y =>
      rw [flN_step hy]
      obtain ⟨q1, q2, q3, q4, q5⟩ := h.fillS hy hm0 h2 h3
      obtain ⟨p1, p2, p3, p4, p5⟩ := Hd.fillN (m0 := m0) k y q1 (by omega) (by rw [q2, q3]; exact h2) (by rw [q2, q3]; exact h3)
      exact ⟨p1, p2.trans q2, p3.trans q3, Nat.le_trans q4 p4, fun i hi => by rw [← q5 i hi]; exact p5 i (by rw [q5 i hi]; exact hi)⟩

/-- fill -/
theorem Hd.fills {n : Nat} {x : Fl} {s : Sd} {hl : Nat → Nat} {P : List (List Int)} (h : Hd n ⟨x.D, x.B, s, x.c⟩ hl [] P) : Hd n ⟨(flF n x).D, (flF n x).B, s, (flF n x).c⟩ hl [] P ∧ ∀ i, (x.B i).refs ≠ 0 → (flF n x).B i = x.B i := by
  have h3 : x.D.r 3 = (x.c.nx : Int) := h.h3
  have h2 : x.D.r 2 = (x.c.first : Int) := by
    have := h.h2.2.1
    have c16 : x.c.first < 16 := h.cf
    have e : x.D.r 2 = (((x.c.first + 0) % 16 : Nat) : Int) := this
    rw [e]; omega
  have ef : x.fin = x.D := by
    unfold Fl.fin
    rw [show upd x.D.r 3 (x.c.nx : Int) = x.D.r by rw [← h3]; exact upd_self _ _]
  have h' : Hd n ⟨x.fin, x.B, s, x.c⟩ hl [] P := by rw [ef]; exact h
  obtain ⟨p1, p2, p3, p4, p5⟩ := Hd.fillN (m0 := x.c.ids.length) 15 x h' (Nat.le_refl _) h2 h3
  refine ⟨?_, p5⟩
  have e : (flF n x).D = (flN n 15 x).fin := by
    unfold flF
    show (if _ then _ else _) = _
    have nx16 : (flN n 15 x).c.nx < 16 := Nat.mod_lt _ (by omega)
    split
    · exact wr3 _ _ nx16
    · rename_i hn
      have el : (flN n 15 x).c.ids.length = x.c.ids.length := by omega
      have en : (flN n 15 x).c.nx = x.c.nx := by unfold Sd.nx; rw [el, p3]
      unfold Fl.fin
      rw [show upd (flN n 15 x).D.r 3 ((flN n 15 x).c.nx : Int) = (flN n 15 x).D.r by rw [en, ← h3, p2]; exact upd_self _ _]
  rw [e]
  exact p1
end Go.Proofs.Ytjkfjijnjkpbbaa
