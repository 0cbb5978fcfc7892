
/-
  Package frag: what Put answers, in numbers; add in the midst of all datagrams; a new datagram.
-/
import Derived.Test.YtgempelfamjabaaF22
import Derived.Test.YtgempelfamjabaaF2
namespace Go.Proofs.Ytgempelfamjabaa
open Go.RowKit Go.Shelf

theorem Gro.rowB {B : Nat} {W : World} {v : Value} {bs : List Int} (h : Gro B W v bs) : RowB (fun g => B ≤ g ∧ g < W.heap.size) W v bs := by
  have h' := h
  obtain ⟨_, ⟨rfl, h0⟩ | ⟨g, cap, cur, rfl, hg, hh, hc, hm, hs, ht⟩⟩ := h
  · have : bs = [] := List.eq_nil_of_length_eq_zero h0
    subst this
    exact RowB.nil _ _
  · have hgl := (Array.getElem?_eq_some_iff.1 hh).1
    refine ⟨_, _, rfl, hc, hm, (fun e => by cases e), fun ad e => ?_⟩
    cases e
    refine ⟨g, rfl, ⟨hg, hgl⟩, hgl, fun j hj => ?_, fun j => World.ownsRow.frozenAt h' j, fun q hq j u hu => ?_⟩
    · rw [cell_of_row _ g j _ 5 (0, 0) hh, Array.getElem?_eq_getElem (by omega)]; rfl
    · have hj : j = 0 := by have := (List.getElem?_eq_some_iff.1 hu).1; simp at this; omega
      subst hj
      have e := World.ownsRow.cellAt h' q (by omega)
      rw [Nat.mul_one, Nat.add_zero, e]
      simp [List.getElem?_eq_getElem hq] at hu
      simp [List.getElem?_eq_getElem hq, hu]
/-- a copy that is its owner's -/
theorem cloneR_any {P : Nat → Prop} {w : World} {v : Value} {D : List Int} (h : CB P w v D) (hl : D.length ≤ 140737488355328) :
    Calls Try.prog 32 #[v] w fun e w' => ∃ u, e = .returned u ∧ RowB (fun g => w.heap.size ≤ g ∧ g < w'.heap.size) w' u D ∧ Below w.heap.size w w' := by
  have q22 : ∀ (w : World) (a : Option Addr) (n c n' c' : Nat), (binOp .eql 24 (.slice a n c) (.slice none n' c')).run Try.prog w = .ok (.bool a.isNone) w := fun w a n c n' c' => Lib.run_eql_slice_nil w _ _ a n c n' c' Try.underlying24
  obtain ⟨a, cap, rfl, c2, c3, c4⟩ := h
  cases a with
  | none =>
    have h0 := c3 rfl
    have : D = [] := List.eq_nil_of_length_eq_zero (by omega)
    subst this
    subst h0
    clear c2 c3 c4 hl
    go_enter Try.func32, Try.ntmps32
    go_wp2
    go_ret
    exact ⟨_, rfl, RowB.nil _ _, Below.refl _ _⟩
  | some ad =>
    refine (Clone_any (.slice (some ad) D.length cap) D w (Cn.isB (P := P) ⟨some ad, cap, rfl, c2, c3, c4⟩) (by omega) (fun a n c e => by cases e; simp)).mono ?_
    rintro _ w' ⟨u, rfl, g, b⟩
    exact ⟨u, rfl, g.rowB, b⟩
/-- a piece, a datagram, all datagrams, without where they lie -/
def Pc.n (x : Pc) : Pc := { x with dv := .slice none 0 0 }
def Gm.n (m : Gm) : Gm := { m with hv := .slice none 0 0, L := m.L.map Pc.n }
def absG (G : List (Nat × Gm)) : List Gm := G.map (·.2.n)
theorem odds_n (x y : Pc) : odds x.n y.n = odds x y := rfl
theorem any_n (x : Pc) (L : List Pc) : (L.map Pc.n).any (odds x.n) = L.any (odds x) := by
  rw [List.any_map]
  rfl
theorem ordF_n (L : List Pc) : ∀ f e, ordF (L.map Pc.n) f e = (ordF L f e).map (·.map Pc.n)
  | 0, _ => rfl
  | f + 1, e => by
    have h : (L.map Pc.n).find? (fun x => x.at_ == e) = (L.find? (fun x => x.at_ == e)).map Pc.n := by
      rw [List.find?_map]
      rfl
    rw [ordF, ordF, h]
    cases L.find? (fun x => x.at_ == e) with
    | none => rfl
    | some x =>
      simp only [Option.map_some]
      rw [show (Pc.n x).last = x.last from rfl]
      by_cases hl : x.last = true
      · rw [if_pos hl, if_pos hl]; rfl
      · rw [if_neg hl, if_neg hl, show (Pc.n x).end_ = x.end_ from rfl, ordF_n L f x.end_]
        cases ordF L f x.end_ <;> rfl
theorem ord_n (L : List Pc) : ord (L.map Pc.n) = (ord L).map Pc.n := by
  unfold ord
  rw [ordF_n]
  cases ordF L 1025 0 <;> rfl
theorem szP_n (L : List Pc) : szP (L.map Pc.n) = szP L := by
  unfold szP
  rw [List.map_map]
  rfl
def szS (S : List Gm) : Nat := (S.map (fun m => szP m.L)).sum
theorem szS_abs (G : List (Nat × Gm)) : szS (absG G) = szG G := by
  unfold szS szG absG
  rw [List.map_map]
  congr 1
  apply List.map_congr_left
  intro p _
  exact szP_n p.2.L
/-- the piece that a packet is -/
def nPc (p : Pk) (D : List Int) (buf : Int) : Pc := ⟨p.off, .slice none 0 0, D, !p.more, buf⟩
/-- one piece more -/
def addG (m : Gm) (p : Pk) (x : Pc) : Gm := if x.at_ = 0 then ⟨m.kd, m.since, { p with more := false }, .slice none 0 0, m.L ++ [x]⟩ else { m with L := m.L ++ [x] }
theorem addG_kd (m : Gm) (p : Pk) (x : Pc) : (addG m p x).kd = m.kd := by
  unfold addG
  split <;> rfl
theorem addG_since (m : Gm) (p : Pk) (x : Pc) : (addG m p x).since = m.since := by
  unfold addG
  split <;> rfl
theorem addG_L (m : Gm) (p : Pk) (x : Pc) : (addG m p x).L = m.L ++ [x] := by
  unfold addG
  split <;> rfl
def fndI (k : Kd) (S : List Gm) : Option Nat := S.findIdx? (fun m => eqKd m.kd k)
/-- is it whole? -/
def finS (m : Gm) (a b : List Gm) : Option (Pk × List Int × List Int) × List Int × List Gm :=
  if ord m.L = [] then (none, [], b) else (some (m.hd, (ord m.L).flatMap (·.D), (ord m.L).map (·.buf)), [], a)
/-- what Put answers: the datagram, which buffers are let go, and what is held then -/
def putS (p : Pk) (D : List Int) (buf now : Int) (S : List Gm) : Option (Pk × List Int × List Int) × List Int × List Gm :=
  if frg p = false then (some (p, D, [buf]), [], S)
  else if myb p D.length = false then (none, [buf], S)
  else match fndI p.kd S with
    | some i => match S[i]? with
      | none => (none, [], S)
      | some m =>
        if m.L.any (odds (nPc p D buf)) = true then (none, m.L.map (·.buf) ++ [buf], S.eraseIdx i)
        else if 2048 < szS S + D.length then (none, [buf], S)
        else finS (addG m p (nPc p D buf)) (S.eraseIdx i) (S.set i (addG m p (nPc p D buf)))
    | none => if S.length = 4 ∨ 2048 < szS S + D.length then (none, [buf], S)
      else finS (addG ⟨p.kd, now, zF, .slice none 0 0, []⟩ p (nPc p D buf)) S (S ++ [addG ⟨p.kd, now, zF, .slice none 0 0, []⟩ p (nPc p D buf)])
theorem find_idx {α : Type} {q : α → Bool} {l : List α} {x : α} (h : l.find? q = some x) : ∃ i, l[i]? = some x ∧ l.findIdx? q = some i := by
  rw [List.find?_eq_some_iff_getElem] at h
  obtain ⟨hx, i, hi, e, hlt⟩ := h
  refine ⟨i, by rw [List.getElem?_eq_getElem hi, e], ?_⟩
  rw [List.findIdx?_eq_some_iff_getElem]
  exact ⟨hi, by rw [e]; exact hx, fun j hj => by have := hlt j hj; simpa using this⟩
theorem fndI_abs (k : Kd) (G : List (Nat × Gm)) : fndI k (absG G) = G.findIdx? (fun p => eqKd p.2.kd k) := by
  unfold fndI absG
  rw [List.findIdx?_map]
  rfl
theorem fndK_some {k : Kd} {G : List (Nat × Gm)} {q : Nat × Gm} (h : fndK k G = some q) : ∃ i, G[i]? = some q ∧ fndI k (absG G) = some i := by
  rw [fndI_abs]
  exact find_idx h
theorem fndK_none {k : Kd} {G : List (Nat × Gm)} (h : fndK k G = none) : fndI k (absG G) = none := by
  rw [fndI_abs, List.findIdx?_eq_none_iff]
  intro x hx
  have := List.find?_eq_none.1 h x hx
  simpa using this
section
variable {ρ ρ' : Nat → Nat × Nat} {W W' : World} {b : Nat} {G G' : List (Nat × Gm)}
/-- what is not there yet is nobody's -/
def cutR (ρ : Nat → Nat × Nat) (n : Nat) : Nat → Nat × Nat := fun g => if g < n then ρ g else (0, 9)
theorem cutR_lt {ρ : Nat → Nat × Nat} {n g : Nat} (h : g < n) : cutR ρ n g = ρ g := if_pos h
theorem cutR_ge {ρ : Nat → Nat × Nat} {n g : Nat} (h : n ≤ g) : cutR ρ n g = (0, 9) := if_neg (by omega)
theorem FrAt.cut (h : FrAt ρ W b G) : FrAt (cutR ρ W.heap.size) W b G := h.rerole (fun _ hg => cutR_lt hg)
end
set_option maxHeartbeats 1000000 in
/-- add, wherever the piece stands -/
theorem add_any {w : World} {b : Nat} {RO CO P : Nat → Prop} {m : Gm} (h : GmAt w b RO CO m) (hro : ∀ g, RO g → g ≠ b ∧ ¬ CO g) (hco : ∀ g, CO g → g ≠ b) (hlt : ∀ g, RO g ∨ CO g → g < w.heap.size) (p : Pk) (ov : Value) (ho : CB P w ov p.opts) (hol : p.opts.length ≤ 140737488355328) (x : Pc) (hx : x.Ok CO w) (hl : m.L.length < 600) :
    Calls Try.prog 38 #[.pointer (some ⟨b, 0, none⟩), .agg (p.cells ov).toArray, .agg x.cells.toArray] w fun e w' => e = .returned (.tuple #[]) ∧ ∃ (m' : Gm) (RO' CO' : Nat → Prop), GmAt w' b RO' CO' m' ∧ m'.n = addG m.n p x.n ∧ m'.L = m.L ++ [x] ∧ But (fun g => g = b ∨ RO g) w w' ∧ (∀ g, RO' g → (RO g ∨ w.heap.size ≤ g) ∧ ¬ CO' g) ∧ (∀ g, CO' g → CO g ∨ w.heap.size ≤ g) := by
  by_cases h0 : x.at_ = 0
  · refine (add_head h hro hco hlt p ov ho hol x hx h0 hl).mono ?_
    rintro _ w' ⟨rfl, u, RO', CO', g1, g2, g3, g4⟩
    refine ⟨rfl, _, RO', CO', g1, ?_, rfl, g2, g3, g4⟩
    unfold addG
    rw [if_pos (show x.n.at_ = 0 from h0)]
    simp [Gm.n]
  · refine (add_rest h hro hco hlt p ov x hx h0 hl).mono ?_
    rintro _ w' ⟨rfl, RO', g1, g2, g3⟩
    refine ⟨rfl, _, RO', CO, g1, ?_, rfl, g2, fun g e => ⟨g3 g e, fun e2 => ?_⟩, fun g e => .inl e⟩
    · unfold addG
      rw [if_neg (show ¬ x.n.at_ = 0 from h0)]
      simp [Gm.n]
    · rcases g3 g e with e3 | e3
      · exact (hro g e3).2 e2
      · have := hlt g (.inr e2); omega
theorem absG_set (G : List (Nat × Gm)) (i : Nat) (k : Nat) (m : Gm) : absG (G.set i (k, m)) = (absG G).set i m.n := by
  unfold absG
  rw [List.map_set]
theorem absG_erase (G : List (Nat × Gm)) (i : Nat) : absG (G.eraseIdx i) = (absG G).eraseIdx i := by
  unfold absG
  apply List.ext_getElem?
  intro j
  rw [List.getElem?_map, List.getElem?_eraseIdx, List.getElem?_eraseIdx]
  by_cases e : j < i
  · rw [if_pos e, if_pos e, List.getElem?_map]
  · rw [if_neg e, if_neg e, List.getElem?_map]
theorem map_set_same {α β : Type} {f : α → β} {L : List α} {i : Nat} {x y : α} (h : L[i]? = some x) (e : f y = f x) : (L.set i y).map f = L.map f := by
  rw [List.map_set, e]
  apply List.ext_getElem?
  intro j
  rw [List.getElem?_set]
  by_cases ej : i = j
  · subst ej
    rw [if_pos rfl, List.getElem?_map, h, if_pos (by rw [List.length_map]; exact (List.getElem?_eq_some_iff.1 h).1)]
    rfl
  · rw [if_neg ej]
theorem nodup_at {α : Type} {L : List α} (h : L.Nodup) {i j : Nat} {a : α} (hi : L[i]? = some a) (hj : L[j]? = some a) : i = j := by
  obtain ⟨li, ei⟩ := List.getElem?_eq_some_iff.1 hi
  obtain ⟨lj, ej⟩ := List.getElem?_eq_some_iff.1 hj
  have hd := List.pairwise_iff_getElem.1 h
  rcases Nat.lt_trichotomy i j with hl | hl | hl
  · exact absurd (ei.trans ej.symm) (hd i j li lj hl)
  · exact hl
  · exact absurd (ej.trans ei.symm) (hd j i lj li hl)
theorem ptc_set {G : List (Nat × Gm)} {i k : Nat} {m m' : Gm} (h : G[i]? = some (k, m)) (j : Nat) : ptc (G.set i (k, m')) j = ptc G j := by
  unfold ptc
  rw [List.getElem?_set]
  by_cases e : i = j
  · subst e
    rw [if_pos rfl, if_pos (List.getElem?_eq_some_iff.1 h).1, h]
  · rw [if_neg e]
set_option maxHeartbeats 1000000 in
open Classical in
/-- a datagram's turned for another one of its kind -/
theorem FrAt.turn {ρ : Nat → Nat × Nat} {w w' : World} {b : Nat} {G : List (Nat × Gm)} (h : FrAt ρ w b G) {i k : Nat} {m m' : Gm} (hi : G[i]? = some (k, m)) {RO' CO' : Nat → Prop} (g1 : GmAt w' k RO' CO' m') (hkd : m'.kd = m.kd) (hb : But (fun g => g = k ∨ ρ g = (k, 1) ∧ g < w.heap.size) w w') (h1 : ∀ g, RO' g → ((ρ g = (k, 1) ∧ g < w.heap.size) ∨ w.heap.size ≤ g) ∧ ¬ CO' g) (h2 : ∀ g, CO' g → (ρ g = (k, 2) ∧ g < w.heap.size) ∨ w.heap.size ≤ g) :
    ∃ ρ' : Nat → Nat × Nat, FrAt ρ' w' b (G.set i (k, m')) ∧ (∀ g, g < w.heap.size → ρ' g = ρ g) := by
  obtain ⟨ρ', hρ'⟩ : ∃ ρ' : Nat → Nat × Nat, ρ' = fun g => if g < w.heap.size then ρ g else if RO' g then (k, 1) else if CO' g then (k, 2) else (0, 9) := ⟨_, rfl⟩
  have e1 : ∀ g, g < w.heap.size → ρ' g = ρ g := fun g hg => by rw [hρ']; exact if_pos hg
  have e2 : ∀ g, RO' g → ρ' g = (k, 1) := fun g e => by
    rcases (h1 g e).1 with e0 | e0
    · rw [e1 g e0.2]; exact e0.1
    · rw [hρ']; show (if _ then _ else _) = _; rw [if_neg (by omega), if_pos e]
  have e3 : ∀ g, CO' g → ρ' g = (k, 2) := fun g e => by
    rcases h2 g e with e0 | e0
    · rw [e1 g e0.2]; exact e0.1
    · rw [hρ']; show (if _ then _ else _) = _; rw [if_neg (by omega), if_neg (fun e4 => (h1 g e4).2 e), if_pos e]
  clear hρ'
  have hmem := List.mem_of_getElem? hi
  obtain ⟨q1, q2, q3⟩ := h.gm _ hmem
  have hl := h.lt
  have nb : ¬ (b = k ∨ ρ b = (k, 1) ∧ b < w.heap.size) := fun e => by
    rcases e with e | e
    · exact q2 e.symm
    · rw [h.me] at e; simp at e
  obtain ⟨v, cv, rv⟩ := h.list
  refine ⟨ρ', ⟨⟨v, (hb.cell (p := ⟨b, 0, none⟩) hl nb).trans cv, ?_⟩, (hb.frozen (p := ⟨b, 0, none⟩) hl nb).trans h.fz, by rw [e1 b hl]; exact h.me, ?_, ?_, ?_, by rw [List.length_set]; exact h.len⟩, e1⟩
  · rw [List.length_set]
    refine RowF.cong (c := ptc G) (((rv.own (O' := fun g => ρ g = (b, 3) ∧ g < w.heap.size) (fun g hg e => ⟨e, hg⟩)).but hb (fun g e e0 => ?_)).own (fun g _ e => by rw [e1 g e.2]; exact e.1)) (fun j hj => ptc_set hi j)
    rcases e0 with e0 | e0
    · subst e0
      rw [q1] at e
      simp at e
    · rw [e.1] at e0; simp at e0
  · intro p hp
    by_cases ek : p.1 = k
    · have hp2 : p = (k, m') := by
        obtain ⟨j, hj⟩ := List.getElem?_of_mem hp
        have hjn : (G.map (·.1))[j]? = some k := by
          have : ((G.set i (k, m')).map (·.1))[j]? = some p.1 := by rw [List.getElem?_map, hj]; rfl
          rw [map_set_same (f := Prod.fst) hi (rfl : ((k, m') : Nat × Gm).1 = ((k, m) : Nat × Gm).1), ek] at this
          exact this
        have hin : (G.map (·.1))[i]? = some k := by rw [List.getElem?_map, hi]; rfl
        have eij : i = j := nodup_at h.nd hin hjn
        subst eij
        rw [List.getElem?_set_self (List.getElem?_eq_some_iff.1 hi).1] at hj
        exact (Option.some.inj hj).symm
      subst hp2
      exact ⟨by rw [e1 k q3.lt]; exact q1, q2, g1.own (fun g _ e => e2 g e) (fun g _ e => e3 g e)⟩
    · have hpG : p ∈ G := by
        rcases List.mem_or_eq_of_mem_set hp with h | h
        · exact h
        · rw [h] at ek; exact absurd rfl ek
      obtain ⟨p1, p2, p3⟩ := h.gm p hpG
      have lp := p3.lt
      refine ⟨by rw [e1 p.1 lp]; exact p1, p2, ?_⟩
      have q := (p3.own (RO' := fun g => ρ g = (p.1, 1) ∧ g < w.heap.size) (CO' := fun g => ρ g = (p.1, 2) ∧ g < w.heap.size) (fun g hg e => ⟨e, hg⟩) (fun g hg e => ⟨e, hg⟩)).but hb (fun g e e0 => by
        rcases e0 with e0 | e0
        · subst e0
          rcases e with e | e | e
          · exact ek e.symm
          · rw [q1] at e; simp at e
          · rw [q1] at e; simp at e
        · rcases e with e | e | e
          · subst e; rw [p1] at e0; simp at e0
          · rw [e.1] at e0; exact ek (congrArg Prod.fst e0.1)
          · rw [e.1] at e0; simp at e0)
      exact q.own (fun g _ e => by rw [e1 g e.2]; exact e.1) (fun g _ e => by rw [e1 g e.2]; exact e.1)
  · show ((G.set i (k, m')).map Prod.fst).Nodup
    rw [map_set_same (f := Prod.fst) hi (rfl : ((k, m') : Nat × Gm).1 = ((k, m) : Nat × Gm).1)]
    exact h.nd
  · show ((G.set i (k, m')).map (fun p : Nat × Gm => p.2.kd)).Nodup
    rw [map_set_same (f := fun p : Nat × Gm => p.2.kd) hi hkd]
    exact h.kn
/-- add to one of all datagrams -/
theorem fAdd_any {ρ : Nat → Nat × Nat} {w : World} {b : Nat} {G : List (Nat × Gm)} {P : Nat → Prop} (h : FrAt ρ w b G) {i k : Nat} {m : Gm} (hi : G[i]? = some (k, m)) (p : Pk) (ov : Value) (ho : CB P w ov p.opts) (hol : p.opts.length ≤ 140737488355328) (x : Pc) (hx : x.Ok (fun g => ρ g = (k, 2)) w) (hl : m.L.length < 600) :
    Calls Try.prog 38 #[.pointer (some ⟨k, 0, none⟩), .agg (p.cells ov).toArray, .agg x.cells.toArray] w fun e w' => e = .returned (.tuple #[]) ∧ ∃ (m' : Gm) (ρ' : Nat → Nat × Nat), FrAt ρ' w' b (G.set i (k, m')) ∧ m'.n = addG m.n p x.n ∧ m'.L = m.L ++ [x] ∧ (∀ g, g < w.heap.size → ρ' g = ρ g) ∧ But (fun g => g = k ∨ ρ g = (k, 1) ∧ g < w.heap.size) w w' := by
  obtain ⟨q1, q2, q3⟩ := h.gm _ (List.mem_of_getElem? hi)
  have q4 := q3.own (RO' := fun g => ρ g = (k, 1) ∧ g < w.heap.size) (CO' := fun g => ρ g = (k, 2) ∧ g < w.heap.size) (fun g hg e => ⟨e, hg⟩) (fun g hg e => ⟨e, hg⟩)
  refine (add_any q4 (fun g e => ⟨fun e2 => by subst e2; rw [q1] at e; simp at e, fun e2 => by rw [e.1] at e2; simp at e2⟩) (fun g e e2 => by subst e2; rw [q1] at e; simp at e) (fun g e => e.elim (·.2) (·.2)) p ov ho hol x ⟨hx.d.own (fun g hg e => ⟨e, hg⟩), hx.lo, hx.hi⟩ hl).mono ?_
  rintro _ w' ⟨rfl, m', RO', CO', g1, g2, g3, g4, g5, g6⟩
  have hkd : m'.kd = m.kd := by
    have := congrArg Gm.kd g2
    rw [addG_kd] at this
    exact this
  obtain ⟨ρ', r1, r2⟩ := h.turn hi g1 hkd g4 g5 g6
  exact ⟨rfl, m', ρ', r1, g2, g3, r2, g4⟩
end Go.Proofs.Ytgempelfamjabaa
