
/-
  Frames on their way: how a list of them lies in memory; rows that grow; which blocks are whose ('roles').
-/
import Derived.Test.YtghojbgjmpjhgaaNRef3
import Derived.Deep.DeepAppendRoom
namespace Go.Proofs.Ytghojbgjmpjhgaa
open Go.RowKit

/-- a frame on its way -/
structure Frm where
  bs : List Int
  bad : Bool
  tick : Int

/-- the three cells of one -/
def cel (p : Value × Frm) : List Value := [p.1, .bool p.2.bad, .int .i64 p.2.tick]
def flat (l : List (Value × Frm)) : List Value := l.flatMap cel
theorem flat_nil : flat [] = [] := rfl
theorem flat_cons (p : Value × Frm) (l : List (Value × Frm)) : flat (p :: l) = p.1 :: .bool p.2.bad :: .int .i64 p.2.tick :: flat l := rfl
theorem flat_append (a b : List (Value × Frm)) : flat (a ++ b) = flat a ++ flat b := by simp [flat]
theorem flat_len (l : List (Value × Frm)) : (flat l).length = l.length * 3 := by
  induction l with
  | nil => rfl
  | cons p l ih => simp [flat_cons, ih]; omega
theorem flat_take (l : List (Value × Frm)) (k : Nat) (hk : k ≤ l.length) : (flat l).take (k * 3) = flat (l.take k) := by
  have e : flat l = flat (l.take k) ++ flat (l.drop k) := by rw [← flat_append, List.take_append_drop]
  rw [e, List.take_append_of_le_length (by rw [flat_len, List.length_take]; omega), List.take_of_length_le (by rw [flat_len, List.length_take]; omega)]
theorem flat_drop (l : List (Value × Frm)) (k : Nat) (hk : k ≤ l.length) : (flat l).drop (k * 3) = flat (l.drop k) := by
  have e : flat l = flat (l.take k) ++ flat (l.drop k) := by rw [← flat_append, List.take_append_drop]
  rw [e, List.drop_append_of_le_length (by rw [flat_len, List.length_take]; omega), List.drop_of_length_le (by rw [flat_len, List.length_take]; omega), List.nil_append]
theorem flat_get (l : List (Value × Frm)) (k : Nat) (p : Value × Frm) (h : l[k]? = some p) : (flat l)[k * 3]? = some p.1 ∧ (flat l)[k * 3 + 1]? = some (.bool p.2.bad) ∧ (flat l)[k * 3 + 2]? = some (.int .i64 p.2.tick) := by
  obtain ⟨hk, e⟩ := List.getElem?_eq_some_iff.1 h
  have e1 : (flat l).drop (k * 3) = p.1 :: .bool p.2.bad :: .int .i64 p.2.tick :: flat (l.drop (k + 1)) := by
    rw [flat_drop l k (Nat.le_of_lt hk), List.drop_eq_getElem_cons hk, e, flat_cons]
  have key : ∀ j, (flat l)[k * 3 + j]? = ((flat l).drop (k * 3))[j]? := fun j => by rw [List.getElem?_drop]
  refine ⟨?_, ?_, ?_⟩
  · have := key 0; rw [e1] at this; simpa using this
  · have := key 1; rw [e1] at this; simpa using this
  · have := key 2; rw [e1] at this; simpa using this
theorem flat_one (l : List (Value × Frm)) (h : ∀ p ∈ l, p.1.oneCell' = true) : ∀ v ∈ flat l, v.oneCell' = true := by
  intro v hv
  unfold flat at hv
  obtain ⟨p, hp, hv⟩ := List.mem_flatMap.1 hv
  simp only [cel, List.mem_cons, List.not_mem_nil, or_false] at hv
  rcases hv with rfl | rfl | rfl
  · exact h p hp
  · rfl
  · rfl
theorem flat_bad (l : List (Value × Frm)) (k : Nat) (p : Value × Frm) (h : l[k]? = some p) (f : Frm) (hf : f.tick = p.2.tick) : (flat l).set (k * 3 + 1) (.bool f.bad) = flat (l.set k (p.1, f)) := by
  induction l generalizing k with
  | nil => simp at h
  | cons q l ih =>
    cases k with
    | zero =>
      simp only [List.getElem?_cons_zero, Option.some.injEq] at h
      subst h
      simp [flat_cons, hf]
    | succ k =>
      simp only [List.getElem?_cons_succ] at h
      rw [show (k + 1) * 3 + 1 = (k * 3 + 1) + 1 + 1 + 1 by omega, List.set_cons_succ, flat_cons, flat_cons, List.set_cons_succ, List.set_cons_succ, List.set_cons_succ, ih k h]

/-- elements appended to a row of the call's own: its block is the old one, or new -/
theorem run_more {B : Nat} {W : World} (T e : TypeId) (i : TypeInfo) (z : Value) (sz bytes : Nat) (ht : Try.prog.underlying T = some (.slice e)) (hi : Try.prog.info? e = some i) (hz : i.zero = some z) (hsz : i.size = sz) (hby : i.bytes = bytes) (hzs : z.cells.size = sz) (h0 : 0 < sz)
    {v : Value} {n : Nat} {xs : List Value} (hx : W.ownsRow B e sz v n xs) (ad : Addr) (m c : Nat) (news : List Value) (hnl : news.length = m * sz) (hnews : ∀ (j : Nat) (u : Value), news[j]? = some u → W.cell? (ad.add j) = some u) (h1 : ∀ u ∈ news, u.oneCell' = true) (hm : 0 < m) (hB : B ≤ W.heap.size) (hl : n + m ≤ maxLen) (hl2 : (n + m) * bytes ≤ 140737488355328) :
    ∃ g' c' w', (Builtin.append_ #[T, T] T #[v, .slice (some ad) m c]).run Try.prog W = .ok (.slice (some ⟨g', 0, none⟩) (n + m) c') w' ∧ w'.ownsRow B e sz (.slice (some ⟨g', 0, none⟩) (n + m) c') (n + m) (xs ++ news) ∧ But (fun k => v.ownBlock = some k) W w' ∧
      (v.ownBlock = some g' ∨ W.heap.size ≤ g') ∧ n + m ≤ c' ∧ g' < w'.heap.size := by
  obtain ⟨v', w', hrun, ho, hg, _⟩ := run_append_own (P := Try.prog) W B T T e i z sz bytes ht hi hz hsz hby hzs h0 v n xs hx ad m c news hnl hnews h1 hl hl2 hB
  have hbut : But (fun k => v.ownBlock = some k) W w' := ⟨hg.os, hg.tape, hg.output, hg.size, fun k hk hne => hg.block k hk (fun e => hne e.symm)⟩
  have ho' := ho
  obtain ⟨_, ⟨e1, hz0⟩ | ⟨k', c', cur, rfl, hk', hh, hc', _⟩⟩ := ho
  · omega
  refine ⟨k', c', w', hrun, ho', hbut, ?_, hc', (Array.getElem?_eq_some_iff.1 hh).1⟩
  have hxw := hx
  obtain ⟨hxl, ⟨rfl, rfl⟩ | ⟨g0, cp, cur0, rfl, hg0, hh0, hnc, hcm, hcs, htk⟩⟩ := hx
  · have hxs : xs = [] := List.eq_nil_of_length_eq_zero (by simpa using hxl)
    subst hxs
    obtain ⟨v2, w2, hrun2, ho2, _, _⟩ := run_append_own (P := Try.prog) W W.heap.size T T e i z sz bytes ht hi hz hsz hby hzs h0 _ 0 [] (World.ownsRow_nil W W.heap.size e sz) ad m c news hnl hnews h1 hl hl2 (Nat.le_refl _)
    rw [hrun] at hrun2
    simp only [Result.ok.injEq] at hrun2
    obtain ⟨rfl, rfl⟩ := hrun2
    obtain ⟨_, ⟨e3, _⟩ | ⟨k3, c3, cur3, e3, hk3, _⟩⟩ := ho2
    · simp at e3
    · simp only [Value.slice.injEq, Option.some.injEq, Addr.mk.injEq, and_true] at e3
      obtain ⟨rfl, _⟩ := e3
      exact .inr hk3
  · by_cases hroom : n + m ≤ cp
    · obtain ⟨w2, hrun2, _, _⟩ := run_append_own_spare (P := Try.prog) W B T T e i sz ht hi hsz g0 n cp xs hxw ad m c news hnl hnews h1 hroom
      rw [hrun] at hrun2
      simp only [Result.ok.injEq, Value.slice.injEq, Option.some.injEq, Addr.mk.injEq, and_true] at hrun2
      rw [hrun2.1.1]
      exact .inl rfl
    · have hr := run_append_grow (P := Try.prog) W T T e i z ht hi hz ⟨g0, 0, none⟩ n cp xs (by rw [hsz]; exact hxl) (hxw.cells (g := g0) rfl) ad m c news (by rw [hsz]; exact hnl) hnews (by omega) (by unfold maxLen at hl; omega) (growslice_fits (by omega) (by rw [hby]; exact hl2))
      rw [hrun] at hr
      simp only [Result.ok.injEq, Value.slice.injEq, Option.some.injEq, Addr.mk.injEq, and_true] at hr
      rw [hr.1.1]
      exact .inr (Nat.le_refl _)

theorem info_ow : (Try.prog.info? 48).map (fun i => (i.zero, i.size, i.bytes)) = some (some (.agg #[.slice none 0 0, .bool false, .int .i64 0]), 3, 40) := by kernel_rfl

/-- the slice value v is the list l -/
def Row3 (w : World) (v : Value) (l : List (Value × Frm)) : Prop := w.ownsRow 0 48 3 v l.length (flat l)

theorem row_keep {B : Nat} {e : TypeId} {sz : Nat} {w w' : World} {v : Value} {n : Nat} {xs : List Value} (h : w.ownsRow B e sz v n xs) {K : Nat → Prop} (hb : But K w w') (hk : ∀ k, v.ownBlock = some k → ¬ K k) : w'.ownsRow B e sz v n xs := by
  obtain ⟨h1, h2 | ⟨g, cap, cur, rfl, hg, hh, rr⟩⟩ := h
  · exact ⟨h1, .inl h2⟩
  · exact ⟨h1, .inr ⟨g, cap, cur, rfl, hg, by rw [hb.block g (Array.getElem?_eq_some_iff.1 hh).1 (hk g rfl)]; exact hh, rr⟩⟩
theorem Gro.keep {w w' : World} {v : Value} {bs : List Int} (h : Gro 0 w v bs) {K : Nat → Prop} (hb : But K w w') (hk : ∀ k, v.ownBlock = some k → ¬ K k) : Gro 0 w' v bs := row_keep h hb hk
theorem Gro.low {B : Nat} {w : World} {v : Value} {bs : List Int} (h : Gro B w v bs) : Gro 0 w v bs := by
  obtain ⟨h1, h2 | ⟨g, cap, cur, rfl, hg, hh, rr⟩⟩ := h
  · exact ⟨h1, .inl h2⟩
  · exact ⟨h1, .inr ⟨g, cap, cur, rfl, Nat.zero_le _, hh, rr⟩⟩
theorem Gro.blk {B : Nat} {w : World} {v : Value} {bs : List Int} (h : Gro B w v bs) : ∀ k, v.ownBlock = some k → B ≤ k ∧ k < w.heap.size := World.ownsRow.lt h
theorem Gro.one {B : Nat} {w : World} {v : Value} {bs : List Int} (h : Gro B w v bs) : v.oneCell' = true := by
  obtain ⟨_, ⟨rfl, _⟩ | ⟨g, cap, cur, rfl, _⟩⟩ := h <;> rfl

/-- a list of one direction, in blocks of its own: a role for the list's, a role for the frames' -/
structure Lst (ρ : Nat → Nat) (w : World) (i : Nat) (v : Value) (l : List (Value × Frm)) : Prop where
  row : Row3 w v l
  role : ∀ k, v.ownBlock = some k → ρ k = 5 + i
  fr : ∀ p ∈ l, Gro 0 w p.1 p.2.bs ∧ ∀ k, p.1.ownBlock = some k → ρ k = 7 + i
  pw : l.Pairwise (fun p q => ∀ k, p.1.ownBlock = some k → q.1.ownBlock ≠ some k)

theorem Lst.but {ρ ρ' : Nat → Nat} {w w' : World} {i : Nat} {v : Value} {l : List (Value × Frm)} (h : Lst ρ w i v l) {K : Nat → Prop} (hb : But K w w') (hk : ∀ g, K g → ρ g ≠ 5 + i ∧ ρ g ≠ 7 + i) (he : ∀ g, g < w.heap.size → ρ' g = ρ g) : Lst ρ' w' i v l :=
  ⟨row_keep h.row hb (fun k e c => (hk k c).1 (h.role k e)), fun k e => (he k (World.ownsRow.lt h.row k e).2).trans (h.role k e),
    fun p hp => ⟨(h.fr p hp).1.keep hb (fun k e c => (hk k c).2 ((h.fr p hp).2 k e)), fun k e => (he k ((h.fr p hp).1.blk k e).2).trans ((h.fr p hp).2 k e)⟩, h.pw⟩

/-- the blocks that are somebody's -/
def Mine (ρ : Nat → Nat) : Nat → Prop := fun g => ρ g ≠ 0

theorem DevAt.ext {L : Lay} {ρ ρ' : Nat → Nat} {w w' : World} {b : Nat} {D : Dev} (h : DevAt L (Mine ρ) w b D) {K : Nat → Prop} (hb : But K w w') (hk : ∀ g, K g → ρ g ≠ 0) (hn : ¬ K b) (he : ∀ g, g < w.heap.size → ρ' g = ρ g) : DevAt L (Mine ρ') w' b D := by
  have h1 : DevAt L (fun x => ρ x ≠ 0 ∨ w.heap.size ≤ x) w b D := h.avoid (fun x hx e => e.elim id (fun e => by omega)) (.inl h.mem)
  have hlt := h.lt
  refine (h1.but hb (fun g e => .inl (hk g e)) hn).avoid (fun x _ e => ?_) (by show ρ' b ≠ 0; rw [he b hlt]; exact h.mem)
  by_cases hx : x < w.heap.size
  · left; rw [← he x hx]; exact e
  · right; omega
theorem IsF.ext {ρ ρ' : Nat → Nat} {w w' : World} {v : Value} {bs : List Int} (h : IsF (Mine ρ) w v bs) {K : Nat → Prop} (hb : But K w w') (hk : ∀ g, K g → ρ g ≠ 0) (he : ∀ g, g < w.heap.size → ρ' g = ρ g) : IsF (Mine ρ') w' v bs := by
  have h1 : IsF (fun x => ρ x ≠ 0 ∨ w.heap.size ≤ x) w v bs := h.avoid (fun x hx e => e.elim id (fun e => by omega))
  refine (h1.but hb (fun g e => .inl (hk g e))).avoid (fun x _ e => ?_)
  by_cases hx : x < w.heap.size
  · left; rw [← he x hx]; exact e
  · right; omega

/-- A WIRE AND ITS TWO DEVICES -/
structure Net (ρ : Nat → Nat) (w : World) (b : Nat) (dv : Nat → Nat) (ck : Int) (L : Nat → List (Value × Frm)) (D : Nat → Dev) : Prop where
  lt : ∀ g, ρ g ≠ 0 → g < w.heap.size
  rb : ρ b = 3
  rd : ∀ i, i < 2 → ρ (dv i) = 1 + i
  clock : w.cell? ⟨b, 0, none⟩ = some (.int .i64 ck)
  ends : ∀ i, i < 2 → w.cell? ⟨b, 1 + i, none⟩ = some (.pointer (some ⟨dv i, 0, none⟩))
  fz : ∀ i, w.frozen? ⟨b, i, none⟩ = false
  ls : ∀ i, i < 2 → ∃ v, w.cell? ⟨b, 3 + i, none⟩ = some v ∧ Lst ρ w i v (L i)
  dev : ∀ i, i < 2 → DevAt LN (Mine ρ) w (dv i) (D i)
  ok : ∀ i, i < 2 → (D i).Ok
  fl : ∀ i, i < 2 → ∀ p ∈ L i, p.2.bs.length ≤ 274

section
variable {ρ ρ' : Nat → Nat} {w w' : World} {b : Nat} {dv : Nat → Nat} {ck : Int} {L : Nat → List (Value × Frm)} {D : Nat → Dev}
theorem Net.blt (h : Net ρ w b dv ck L D) : b < w.heap.size := h.lt b (by rw [h.rb]; omega)
theorem Net.dlt (h : Net ρ w b dv ck L D) (i : Nat) (hi : i < 2) : dv i < w.heap.size := h.lt _ (by rw [h.rd i hi]; omega)
/-- nothing of it was touched -/
theorem Net.keep (h : Net ρ w b dv ck L D) {K : Nat → Prop} (hb : But K w w') (hk : ∀ g, K g → 9 ≤ ρ g) (he : ∀ g, g < w.heap.size → ρ' g = ρ g) (hl : ∀ g, ρ' g ≠ 0 → g < w'.heap.size) : Net ρ' w' b dv ck L D := by
  have nb : ¬ K b := fun e => by have := hk b e; have := h.rb; omega
  refine ⟨hl, (he b h.blt).trans h.rb, fun i hi => (he _ (h.dlt i hi)).trans (h.rd i hi), (hb.cell (p := ⟨b, 0, none⟩) h.blt nb).trans h.clock, fun i hi => (hb.cell (p := ⟨b, 1 + i, none⟩) h.blt nb).trans (h.ends i hi), fun i => (hb.frozen (p := ⟨b, i, none⟩) h.blt nb).trans (h.fz i), fun i hi => ?_, fun i hi => ?_, h.ok, h.fl⟩
  · obtain ⟨v, hv, hL⟩ := h.ls i hi
    exact ⟨v, (hb.cell (p := ⟨b, 3 + i, none⟩) h.blt nb).trans hv, hL.but hb (fun g e => by have := hk g e; omega) he⟩
  · exact (h.dev i hi).ext hb (fun g e => by have := hk g e; omega) (fun e => by have := hk _ e; have := h.rd i hi; omega) he
theorem Net.later (h : Net ρ w b dv ck L D) (hb : Below w.heap.size w w') : Net ρ w' b dv ck L D :=
  h.keep (K := fun _ => False) (But.of_below hb) (fun _ e => e.elim) (fun _ _ => rfl) (fun g e => Nat.lt_of_lt_of_le (h.lt g e) hb.size)
theorem Net.drew (h : Net ρ w b dv ck L D) : Net ρ w.drew b dv ck L D := h.later ⟨rfl, rfl, rfl, Nat.le_refl _, fun _ _ => rfl⟩
theorem Net.al (h : Net ρ w b dv ck L D) (o : Obj) : Net ρ (w.alloc o) b dv ck L D := h.later ((Below.refl _ _).alloc (Nat.le_refl _) o)
/-- a device has done something -/
theorem Net.acts (h : Net ρ w b dv ck L D) (i : Nat) (hi : i < 2) {D' : Dev} (hd : DevAt LN (Mine ρ) w' (dv i) D') (hok : D'.Ok) (hb : But (Only (dv i)) w w') : Net ρ w' b dv ck L (upd D i D') := by
  have hr := h.rd i hi
  have nb : ¬ Only (dv i) b := fun e => by have e : b = dv i := e; have := h.rb; rw [e] at this; omega
  refine ⟨fun g e => Nat.lt_of_lt_of_le (h.lt g e) hb.size, h.rb, h.rd, (hb.cell (p := ⟨b, 0, none⟩) h.blt nb).trans h.clock, fun i hi => (hb.cell (p := ⟨b, 1 + i, none⟩) h.blt nb).trans (h.ends i hi), fun i => (hb.frozen (p := ⟨b, i, none⟩) h.blt nb).trans (h.fz i), fun j hj => ?_, fun j hj => ?_, fun j hj => ?_, h.fl⟩
  · obtain ⟨v, hv, hL⟩ := h.ls j hj
    exact ⟨v, (hb.cell (p := ⟨b, 3 + j, none⟩) h.blt nb).trans hv, hL.but hb (fun g e => by have e : g = dv i := e; rw [e, hr]; omega) (fun _ _ => rfl)⟩
  · by_cases e : j = i
    · subst e; rw [upd_same]; exact hd
    · rw [upd_other _ _ _ _ e]
      exact (h.dev j hj).ext hb (fun g e => by have e : g = dv i := e; rw [e, hr]; omega) (fun e2 => by have e2 : dv j = dv i := e2; have := h.rd j hj; rw [e2] at this; omega) (fun _ _ => rfl)
  · by_cases e : j = i
    · subst e; rw [upd_same]; exact hok
    · rw [upd_other _ _ _ _ e]; exact h.ok j hj
/-- one list was changed, and is stored -/
theorem Net.put (h : Net ρ w b dv ck L D) (i : Nat) (hi : i < 2) {v : Value} {l : List (Value × Frm)} (hb : But (fun g => ρ g = 5 + i ∨ ρ g = 7 + i) w w') (he : ∀ g, g < w.heap.size → ρ' g = ρ g) (hl : ∀ g, ρ' g ≠ 0 → g < w'.heap.size) (hL : Lst ρ' w' i v l) (hf : ∀ p ∈ l, p.2.bs.length ≤ 274) :
    Net ρ' (w'.setCell ⟨b, 3 + i, none⟩ v) b dv ck (upd L i l) D := by
  have nb : ¬ (fun g => ρ g = 5 + i ∨ ρ g = 7 + i) b := fun e => by have := h.rb; rcases e with e | e <;> omega
  have hb2 : But (Only b) w' (w'.setCell ⟨b, 3 + i, none⟩ v) := (But.refl (Only b) w').setCell (p := ⟨b, 3 + i, none⟩) (.inr rfl) v
  have rb' : ρ' b = 3 := (he b h.blt).trans h.rb
  have cb : ∀ j, j ≠ 3 + i → (w'.setCell ⟨b, 3 + i, none⟩ v).cell? ⟨b, j, none⟩ = w.cell? ⟨b, j, none⟩ := fun j hj =>
    (World.cell?_setCell_other _ _ _ _ (by intro q; cases q; exact hj rfl)).trans (hb.cell (p := ⟨b, j, none⟩) h.blt nb)
  refine ⟨fun g e => by simpa [World.setCell] using hl g e, rb', fun j hj => (he _ (h.dlt j hj)).trans (h.rd j hj), (cb 0 (by omega)).trans h.clock, fun j hj => (cb (1 + j) (by omega)).trans (h.ends j hj), fun j => ?_, fun j hj => ?_, fun j hj => ?_, h.ok, fun j hj => ?_⟩
  · rw [World.frozen?_setCell]; exact (hb.frozen (p := ⟨b, j, none⟩) h.blt nb).trans (h.fz j)
  · by_cases e : j = i
    · subst e
      rw [upd_same]
      refine ⟨v, World.cell?_setCell_same' _ _ _ ?_, hL.but hb2 (fun g e => by have e : g = b := e; rw [e, rb']; omega) (fun _ _ => rfl)⟩
      obtain ⟨u, hu, _⟩ := h.ls j hj
      rw [hb.cell (p := ⟨b, 3 + j, none⟩) h.blt nb, hu]; rfl
    · rw [upd_other _ _ _ _ e]
      obtain ⟨u, hu, hL2⟩ := h.ls j hj
      exact ⟨u, (cb (3 + j) (by omega)).trans hu, (hL2.but hb (fun g e => by omega) he).but hb2 (fun g e => by have e : g = b := e; rw [e, rb']; omega) (fun _ _ => rfl)⟩
  · have h1 : DevAt LN (Mine ρ') w' (dv j) (D j) := (h.dev j hj).ext hb (fun g e => by omega) (fun e => by have := h.rd j hj; rcases e with e | e <;> omega) he
    exact h1.ext hb2 (fun g e => by have e : g = b := e; rw [e, rb']; omega) (fun e => by have e : dv j = b := e; have := h.rd j hj; rw [e] at this; have := h.rb; omega) (fun _ _ => rfl)
  · by_cases e : j = i
    · subst e; rw [upd_same]; exact hf
    · rw [upd_other _ _ _ _ e]; exact h.fl j hj
end

end Go.Proofs.Ytghojbgjmpjhgaa
