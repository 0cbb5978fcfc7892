
/-
  Package frag: the pieces of one datagram, put in their order (numbers alone). FragApart in numbers: the pieces of one datagram, one behind the other, whatever comes between.
-/
import Derived.Test.YtgempelfamjabaaF40
namespace Go.Proofs.Ytgempelfamjabaa
open Go.RowKit Go.Shelf

/-- pieces from o on: each but the last says that more follow, has some bytes, eight times something, and they are D's, one behind the other -/
def Chn (k : Kd) (D : List Int) : Nat → List (Pk × List Int) → Prop
  | _, [] => False
  | o, [x] => x.1.more = false ∧ x.1.off = (o : Int) ∧ x.2 = D.drop o ∧ o ≤ D.length ∧ x.1.kd = k
  | o, x :: y :: l => (x.1.more = true ∧ x.1.off = (o : Int) ∧ x.2 = (D.drop o).take x.2.length ∧ 0 < x.2.length ∧ x.2.length % 8 = 0 ∧ o + x.2.length < D.length ∧ x.1.kd = k) ∧ Chn k D (o + x.2.length) (y :: l)
theorem cutF_chn {p : Pk} {others D : List Int} {mtu : Nat} (ho : 8 ≤ mtu - 20 - others.length) : ∀ (f o : Nat) (os : List Int), 8 ≤ mtu - 20 - os.length → o ≤ D.length → D.length - o < f → Chn p.kd D o (cutF p others D mtu f o os)
  | 0, _, _, _, _, h => by omega
  | f + 1, o, os, hs, hl, h => by
    by_cases hm : mtu - 20 - os.length < D.length - o
    · rw [cutF_more hm]
      obtain ⟨m, hm2⟩ : ∃ m, m = (mtu - 20 - os.length) / 8 * 8 := ⟨_, rfl⟩
      rw [← hm2]
      have m1 : 0 < m ∧ m % 8 = 0 ∧ m ≤ mtu - 20 - os.length := by omega
      have tl := cutF_chn (p := p) (D := D) ho f (o + m) others ho (by omega) (by omega)
      have ll : ((D.drop o).take m).length = m := by rw [List.length_take, List.length_drop]; omega
      cases e : cutF p others D mtu f (o + m) others with
      | nil => rw [e] at tl; exact tl.elim
      | cons y l =>
        rw [e] at tl
        refine ⟨⟨rfl, rfl, ?_, ?_, ?_, ?_, rfl⟩, ?_⟩
        · show (D.drop o).take m = (D.drop o).take ((D.drop o).take m).length
          rw [ll]
        · show 0 < ((D.drop o).take m).length
          rw [ll]; exact m1.1
        · show ((D.drop o).take m).length % 8 = 0
          rw [ll]; exact m1.2.1
        · show o + ((D.drop o).take m).length < D.length
          rw [ll]; omega
        · show Chn p.kd D (o + ((D.drop o).take m).length) (y :: l)
          rw [ll]; exact tl
    · rw [cutF_last hm]
      exact ⟨rfl, rfl, rfl, hl, rfl⟩
/-- they are a chain of all of D -/
theorem cutS_chn {p : Pk} {D : List Int} {mtu : Nat} (h1 : 8 ≤ mtu - 20 - p.opts.length) (h2 : 8 ≤ mtu - 20 - (padO (cpO p.opts)).length) : Chn p.kd D 0 (cutS p D mtu) :=
  cutF_chn h2 _ _ _ h1 (Nat.zero_le _) (by omega)
/-- as they are held, with their buffers' numbers from b on -/
def pcs : List (Pk × List Int) → Int → List Pc
  | [], _ => []
  | x :: l, b => nPc x.1 x.2 b :: pcs l (b + 1)
theorem pcs_len : ∀ (l : List (Pk × List Int)) (b : Int), (pcs l b).length = l.length
  | [], _ => rfl
  | x :: l, b => by rw [pcs, List.length_cons, List.length_cons, pcs_len l]
theorem Chn.bytes {k : Kd} {D : List Int} : ∀ {l : List (Pk × List Int)} {o : Nat} (b : Int), Chn k D o l → (pcs l b).flatMap (·.D) = D.drop o
  | [], _, _, h => h.elim
  | [x], o, b, h => by
    obtain ⟨_, _, h3, _⟩ := h
    simp only [pcs, nPc, List.flatMap_cons, List.flatMap_nil, List.append_nil]
    exact h3
  | x :: y :: l, o, b, h => by
    obtain ⟨⟨_, _, h3, _⟩, ht⟩ := h
    rw [pcs, List.flatMap_cons, Chn.bytes (b + 1) ht]
    show x.2 ++ D.drop (o + x.2.length) = D.drop o
    rw [← List.drop_drop]
    conv => lhs; lhs; rw [h3]
    exact List.take_append_drop _ _
/-- all of them, in order, are what is found -/
theorem Chn.ord {k : Kd} {D : List Int} : ∀ {l : List (Pk × List Int)} {o : Nat} (b : Int) (pre : List Pc) (f : Nat), Chn k D o l → (∀ x ∈ pre, x.at_ < (o : Int)) → l.length ≤ f → ordF (pre ++ pcs l b) f o = some (pcs l b)
  | [], _, _, _, _, h, _, _ => h.elim
  | _ :: _, _, _, _, 0, _, _, hf => by simp at hf
  | [x], o, b, pre, f + 1, h, hp, _ => by
    obtain ⟨h1, h2, _⟩ := h
    have e : (pre ++ pcs [x] b).find? (fun y => y.at_ == (o : Int)) = some (nPc x.1 x.2 b) := by
      rw [List.find?_append, List.find?_eq_none.2 (fun y hy => by have := hp y hy; simp; omega)]
      simp [pcs, nPc, h2]
    rw [ordF_some e]
    simp [nPc, h1, pcs]
  | x :: y :: l, o, b, pre, f + 1, h, hp, hf => by
    obtain ⟨⟨h1, h2, _, h4, _⟩, ht⟩ := h
    have e : (pre ++ pcs (x :: y :: l) b).find? (fun z => z.at_ == (o : Int)) = some (nPc x.1 x.2 b) := by
      rw [List.find?_append, List.find?_eq_none.2 (fun z hz => by have := hp z hz; simp; omega)]
      simp [pcs, nPc, h2]
    have en : (nPc x.1 x.2 b).end_ = ((o + x.2.length : Nat) : Int) := by
      show x.1.off + (x.2.length : Int) = _
      rw [h2]; omega
    have ih := Chn.ord (b + 1) (pre ++ [nPc x.1 x.2 b]) f ht (fun z hz => by
      rcases List.mem_append.1 hz with hz | hz
      · have := hp z hz; omega
      · have e2 : z = nPc x.1 x.2 b := by simpa using hz
        rw [e2]
        show x.1.off < _
        rw [h2]; omega) (by simp at hf ⊢; omega)
    rw [ordF_some e, en]
    rw [List.append_assoc] at ih
    have e3 : pre ++ pcs (x :: y :: l) b = pre ++ ([nPc x.1 x.2 b] ++ pcs (y :: l) (b + 1)) := rfl
    rw [e3, ih]
    simp [nPc, h1, pcs]
/-- as long as one is missing at the end, nothing is whole -/
theorem Chn.part {k : Kd} {D : List Int} : ∀ {l : List (Pk × List Int)} {o : Nat} (i : Nat) (b : Int) (pre : List Pc) (f : Nat), Chn k D o l → i < l.length → (∀ x ∈ pre, x.at_ < (o : Int)) → ordF (pre ++ pcs (l.take i) b) f o = none
  | [], _, _, _, _, _, h, _, _ => h.elim
  | _ :: _, _, _, _, _, 0, _, _, _ => rfl
  | x :: l, o, 0, b, pre, f + 1, _, _, hp => by
    refine ordF_none ?_
    rw [List.take_zero]
    simp only [pcs, List.append_nil]
    exact List.find?_eq_none.2 (fun y hy => by have := hp y hy; simp; omega)
  | [x], _, i + 1, _, _, _ + 1, _, hi, _ => by simp at hi
  | x :: y :: l, o, i + 1, b, pre, f + 1, h, hi, hp => by
    obtain ⟨⟨h1, h2, _, h4, _⟩, ht⟩ := h
    rw [List.take_succ_cons]
    have e : (pre ++ pcs (x :: (y :: l).take i) b).find? (fun z => z.at_ == (o : Int)) = some (nPc x.1 x.2 b) := by
      rw [List.find?_append, List.find?_eq_none.2 (fun z hz => by have := hp z hz; simp; omega)]
      simp [pcs, nPc, h2]
    have en : (nPc x.1 x.2 b).end_ = ((o + x.2.length : Nat) : Int) := by
      show x.1.off + (x.2.length : Int) = _
      rw [h2]; omega
    have ih := Chn.part i (b + 1) (pre ++ [nPc x.1 x.2 b]) f ht (by simp at hi ⊢; omega) (fun z hz => by
      rcases List.mem_append.1 hz with hz | hz
      · have := hp z hz; omega
      · have e2 : z = nPc x.1 x.2 b := by simpa using hz
        rw [e2]
        show x.1.off < _
        rw [h2]; omega)
    rw [ordF_some e, en]
    rw [List.append_assoc] at ih
    have e3 : pre ++ pcs (x :: (y :: l).take i) b = pre ++ ([nPc x.1 x.2 b] ++ pcs ((y :: l).take i) (b + 1)) := rfl
    rw [e3, ih]
    simp [nPc, h1]

theorem Chn.nn {k : Kd} {D : List Int} {l : List (Pk × List Int)} {o : Nat} (h : Chn k D o l) : 0 < l.length := by
  cases l with
  | nil => exact h.elim
  | cons x l => exact Nat.succ_pos _
theorem Chn.len {k : Kd} {D : List Int} : ∀ {l : List (Pk × List Int)} {o : Nat}, Chn k D o l → l.length ≤ D.length - o + 1
  | [], _, h => h.elim
  | [x], _, _ => by simp
  | x :: y :: l, o, h => by
    have ih := Chn.len h.2
    have h4 := h.1.2.2.2.1
    have h6 := h.1.2.2.2.2.2.1
    rw [List.length_cons]
    omega
/-- one of them -/
structure IsAt (k : Kd) (D : List Int) (l : List (Pk × List Int)) (o i : Nat) (b : Int) (x : Pk × List Int) : Prop where
  kd : x.1.kd = k
  lo : (o : Int) ≤ x.1.off
  up : 0 < i → (o : Int) < x.1.off
  z : i = 0 → x.1.off = o
  m8 : x.1.off % 8 = 0
  hi : x.1.off + x.2.length ≤ D.length
  mo : x.1.more = true → 0 < x.2.length ∧ x.2.length % 8 = 0
  me : x.1.more = decide (i + 1 < l.length)
  bh : ∀ y ∈ pcs (l.take i) b, y.last = false ∧ y.end_ ≤ x.1.off ∧ y.at_ ≤ y.end_
theorem Chn.at {k : Kd} {D : List Int} : ∀ {l : List (Pk × List Int)} {o : Nat} (i : Nat) (b : Int) {x : Pk × List Int}, Chn k D o l → o % 8 = 0 → l[i]? = some x → IsAt k D l o i b x
  | [], _, _, _, _, h, _, _ => h.elim
  | [x], o, 0, b, z, h, h8, hx => by
    cases hx
    obtain ⟨h1, h2, h3, h4, h5⟩ := h
    refine ⟨h5, by omega, fun e => by omega, fun _ => h2, by omega, ?_, fun e => (by rw [h1] at e; cases e), (by rw [h1]; simp), fun y hy => by simp [pcs] at hy⟩
    rw [h2, h3, List.length_drop]
    omega
  | [x], _, i + 1, _, _, _, _, hx => by simp at hx
  | x :: y :: l, o, 0, b, z, h, h8, hx => by
    cases hx
    obtain ⟨⟨h1, h2, h3, h4, h5, h6, h7⟩, _⟩ := h
    exact ⟨h7, by omega, fun e => by omega, fun _ => h2, by omega, by omega, fun _ => ⟨h4, h5⟩, by rw [h1]; simp, fun y hy => by simp [pcs] at hy⟩
  | x :: y :: l, o, i + 1, b, z, h, h8, hx => by
    obtain ⟨⟨h1, h2, h3, h4, h5, h6, h7⟩, ht⟩ := h
    have ih := Chn.at i (b + 1) ht (by omega) (by simpa using hx)
    refine ⟨ih.kd, by have := ih.lo; omega, fun _ => by have := ih.lo; omega, fun e => by omega, ih.m8, ih.hi, ih.mo, ?_, fun w hw => ?_⟩
    · rw [ih.me]
      simp
    · rw [List.take_succ_cons, pcs] at hw
      rcases List.mem_cons.1 hw with rfl | hw
      · refine ⟨by simp [nPc, h1], ?_, ?_⟩
        · have := ih.lo
          show x.1.off + (x.2.length : Int) ≤ z.1.off
          omega
        · show x.1.off ≤ x.1.off + (x.2.length : Int)
          omega
      · exact ih.bh w hw
theorem pcs_snoc : ∀ (l : List (Pk × List Int)) (i : Nat) (b : Int) (x : Pk × List Int), l[i]? = some x → pcs (l.take (i + 1)) b = pcs (l.take i) b ++ [nPc x.1 x.2 (b + i)]
  | [], _, _, _, h => by simp at h
  | y :: l, 0, b, x, h => by
    cases h
    simp [pcs]
  | y :: l, i + 1, b, x, h => by
    have ih := pcs_snoc l i (b + 1) x (by simpa using h)
    rw [List.take_succ_cons, List.take_succ_cons, pcs, pcs, ih, List.cons_append]
    have e : b + 1 + (i : Int) = b + ((i + 1 : Nat) : Int) := by omega
    rw [e]
theorem Chn.sz {k : Kd} {D : List Int} : ∀ {l : List (Pk × List Int)} {o : Nat} (i : Nat) (b : Int), Chn k D o l → o ≤ D.length → szP (pcs (l.take i) b) + o ≤ D.length
  | [], _, _, _, h, _ => h.elim
  | _ :: _, _, 0, _, _, ho => by simpa [pcs, szP] using ho
  | [x], o, i + 1, b, h, ho => by
    have e : x.2.length = D.length - o := by rw [h.2.2.1, List.length_drop]
    simp [pcs, szP, nPc, e]
    omega
  | x :: y :: l, o, i + 1, b, h, ho => by
    have h6 := h.1.2.2.2.2.2.1
    have ih := Chn.sz i (b + 1) h.2 (by omega)
    have e : szP (pcs ((x :: y :: l).take (i + 1)) b) = x.2.length + szP (pcs ((y :: l).take i) (b + 1)) := by
      rw [List.take_succ_cons, pcs]
      simp [szP, nPc]
    omega
/-- the pieces of a kind that are held -/
def hp (k : Kd) (S : List Gm) : List (List Pc) := (S.filter (fun m => eqKd m.kd k)).map (·.L)
theorem hp_yes {k : Kd} {m : Gm} (h : m.kd = k) (S : List Gm) : hp k (m :: S) = m.L :: hp k S := by
  unfold hp
  rw [List.filter_cons_of_pos (by simpa [eqKd] using h)]
  rfl
theorem hp_no {k : Kd} {m : Gm} (h : m.kd ≠ k) (S : List Gm) : hp k (m :: S) = hp k S := by
  unfold hp
  rw [List.filter_cons_of_neg (by simpa [eqKd] using h)]
theorem hp_app (k : Kd) (S T : List Gm) : hp k (S ++ T) = hp k S ++ hp k T := by
  unfold hp
  rw [List.filter_append, List.map_append]
theorem fnd_none {k : Kd} {S : List Gm} (h : hp k S = []) : fndI k S = none := by
  unfold fndI
  rw [List.findIdx?_eq_none_iff]
  intro m hm
  have := List.filter_eq_nil_iff.1 (List.map_eq_nil_iff.1 h) m hm
  simpa using this
theorem fnd_one {k : Kd} : ∀ {S : List Gm} {A : List Pc}, hp k S = [A] → ∃ j m, fndI k S = some j ∧ S[j]? = some m ∧ m.kd = k ∧ m.L = A ∧ hp k (S.eraseIdx j) = [] ∧ (∀ m' : Gm, m'.kd = k → hp k (S.set j m') = [m'.L]) ∧ ∀ k', k' ≠ k → hp k' (S.eraseIdx j) = hp k' S ∧ ∀ m' : Gm, m'.kd = k → hp k' (S.set j m') = hp k' S
  | [], A, h => by simp [hp] at h
  | a :: S, A, h => by
    by_cases e : a.kd = k
    · rw [hp_yes e] at h
      have h1 : a.L = A := (List.cons.inj h).1
      have h2 : hp k S = [] := (List.cons.inj h).2
      refine ⟨0, a, by simp [fndI, List.findIdx?_cons, eqKd, e], rfl, e, h1, h2, fun m' hm => ?_, fun k' hk => ⟨?_, fun m' hm => ?_⟩⟩
      · rw [List.set_cons_zero, hp_yes hm, h2]
      · rw [List.eraseIdx_cons_zero, hp_no (by rw [e]; exact hk.symm)]
      · rw [List.set_cons_zero, hp_no (by rw [hm]; exact hk.symm), hp_no (by rw [e]; exact hk.symm)]
    · rw [hp_no e] at h
      obtain ⟨j, m, h1, h2, h3, h4, h5, h6, h7⟩ := fnd_one h
      refine ⟨j + 1, m, ?_, h2, h3, h4, ?_, fun m' hm => ?_, fun k' hk => ⟨?_, fun m' hm => ?_⟩⟩
      · unfold fndI at h1 ⊢
        rw [List.findIdx?_cons, h1]
        simp [eqKd, e]
      · rw [List.eraseIdx_cons_succ, hp_no e, h5]
      · rw [List.set_cons_succ, hp_no e, h6 m' hm]
      · rw [List.eraseIdx_cons_succ]
        by_cases ea : a.kd = k'
        · rw [hp_yes ea, hp_yes ea, (h7 k' hk).1]
        · rw [hp_no ea, hp_no ea, (h7 k' hk).1]
      · rw [List.set_cons_succ]
        by_cases ea : a.kd = k'
        · rw [hp_yes ea, hp_yes ea, (h7 k' hk).2 m' hm]
        · rw [hp_no ea, hp_no ea, (h7 k' hk).2 m' hm]
/-- what is held when i of them have come -/
def st (l : List (Pk × List Int)) (i : Nat) (b : Int) : List (List Pc) := if i = 0 ∨ l.length ≤ i then [] else [pcs (l.take i) b]
theorem st_sz {k : Kd} {D : List Int} {l : List (Pk × List Int)} (h : Chn k D 0 l) (i : Nat) (b : Int) : (st l i b).length ≤ 1 ∧ ((st l i b).map szP).sum ≤ D.length := by
  unfold st
  split
  · simp
  · have := h.sz i b (Nat.zero_le _)
    simpa using this
/-- of two kinds alone: how many there are, how much -/
theorem two_sz {k1 k2 : Kd} (hk : k1 ≠ k2) : ∀ {S : List Gm}, (∀ m ∈ S, m.kd = k1 ∨ m.kd = k2) → S.length = (hp k1 S).length + (hp k2 S).length ∧ szS S = ((hp k1 S).map szP).sum + ((hp k2 S).map szP).sum
  | [], _ => by simp [hp, szS]
  | a :: S, h => by
    obtain ⟨i1, i2⟩ := two_sz hk (S := S) (fun m hm => h m (List.mem_cons_of_mem _ hm))
    have e : szS (a :: S) = szP a.L + szS S := by simp [szS]
    rcases h a List.mem_cons_self with ea | ea
    · rw [hp_yes ea, hp_no (by rw [ea]; exact hk), e]
      simp only [List.length_cons, List.map_cons, List.sum_cons]
      omega
    · rw [hp_no (by rw [ea]; exact hk.symm), hp_yes ea, e]
      simp only [List.length_cons, List.map_cons, List.sum_cons]
      omega
/-- one piece more: the datagram is whole just when it was the last one -/
theorem fin_chn {k : Kd} {D : List Int} {l : List (Pk × List Int)} {i : Nat} {b : Int} (hc : Chn k D 0 l) (hi : i < l.length) (hD : D.length ≤ 500) {m : Gm} {S1 S2 : List Gm} (hm : m.L = pcs (l.take (i + 1)) b) :
    (i + 1 = l.length → ∃ h g, finS m S1 S2 = (some (h, D, g), [], S1)) ∧ (i + 1 ≠ l.length → finS m S1 S2 = (none, [], S2)) := by
  have hl := hc.len
  constructor
  · intro e
    rw [e, List.take_length] at hm
    have o : ord m.L = pcs l b := by
      have := Chn.ord b [] 1025 hc (fun x hx => by cases hx) (by omega)
      rw [List.nil_append] at this
      unfold ord
      rw [hm, show (0 : Int) = ((0 : Nat) : Int) from rfl, this]
      rfl
    have ne : pcs l b ≠ [] := fun e2 => by
      have := pcs_len l b
      rw [e2] at this
      simp at this
      omega
    refine ⟨m.hd, (ord m.L).map (·.buf), ?_⟩
    unfold finS
    rw [if_neg (by rw [o]; exact ne), o, Chn.bytes b hc, List.drop_zero]
  · intro e
    have o : ord m.L = [] := by
      have := Chn.part (i + 1) b [] 1025 hc (by omega) (fun x hx => by cases hx)
      rw [List.nil_append] at this
      unfold ord
      rw [hm, show (0 : Int) = ((0 : Nat) : Int) from rfl, this]
      rfl
    unfold finS
    rw [if_pos o]
theorem put_chn {k : Kd} {D : List Int} {l : List (Pk × List Int)} {i : Nat} {b : Int} {x : Pk × List Int} {S : List Gm} (now : Int) (hc : Chn k D 0 l) (hx : l[i]? = some x) (hD : D.length ≤ 500) (hs : hp k S = st l i b) (h3 : S.length ≤ 3) (hz : szS S ≤ 1000) :
    ∃ r, putS x.1 x.2 (b + i) now S = r ∧ r.1.isSome = decide (i + 1 = l.length) ∧ r.2.1 = [] ∧ (r.1.isSome = true → outD r.1 = D) ∧ hp k r.2.2 = st l (i + 1) b ∧ (∀ k', k' ≠ k → hp k' r.2.2 = hp k' S) ∧ ∀ m ∈ r.2.2, m.kd = k ∨ m ∈ S := by
  have A := hc.at i b (by decide) hx
  have hi : i < l.length := (List.getElem?_eq_some_iff.1 hx).1
  have stn : ∀ j, l.length ≤ j → st l j b = [] := fun j h => by unfold st; rw [if_pos (.inr h)]
  have stm : ∀ j, 0 < j → j < l.length → st l j b = [pcs (l.take j) b] := fun j h h2 => by unfold st; rw [if_neg (by omega)]
  by_cases hf : frg x.1 = true
  case neg =>
    have hf : frg x.1 = false := by simpa using hf
    refine ⟨_, rfl, ?_⟩
    unfold putS
    rw [if_pos hf]
    unfold frg at hf
    rw [Bool.or_eq_false_iff] at hf
    have i0 : i = 0 := by
      rcases Nat.eq_zero_or_pos i with e | e
      · exact e
      · have := A.up e
        have h2 := hf.2
        simp at h2
        omega
    have e1 : ¬ i + 1 < l.length := by
      have := A.me
      rw [hf.1] at this
      simpa using this.symm
    have l1 : i + 1 = l.length := by omega
    have dx : x.2 = D := by
      have hl1 : l.length = 1 := by omega
      obtain ⟨z, rfl⟩ := List.length_eq_one_iff.1 hl1
      subst i0
      cases hx
      rw [hc.2.2.1, List.drop_zero]
    refine ⟨by simp [l1], rfl, fun _ => dx, ?_, fun _ _ => rfl, fun m hm => .inr hm⟩
    show hp k S = _
    rw [hs, stn (i + 1) (by omega)]
    unfold st
    rw [if_pos (.inl i0)]
  have hm : myb x.1 x.2.length = true := by
    have a1 := A.lo
    have a2 := A.m8
    have a3 := A.hi
    have a4 := A.mo
    have t8 : x.1.off.tmod 8 = 0 := by rw [Int.tmod_eq_emod_of_nonneg (by omega)]; exact a2
    unfold myb
    rw [decide_eq_true (show 0 ≤ x.1.off by omega), decide_eq_true t8, decide_eq_true (show (x.2.length : Int) ≤ 1024 - x.1.off by omega)]
    cases hmo : x.1.more with
    | false => rfl
    | true =>
      have := a4 hmo
      rw [decide_eq_true (show x.2.length ≠ 0 by omega), decide_eq_true this.2]
      rfl
  have sn := pcs_snoc l i b x hx
  have xl : x.2.length ≤ 500 := by have := A.hi; have := A.lo; omega
  rcases Nat.eq_zero_or_pos i with i0 | ip
  · have h0 : hp k S = [] := by rw [hs]; unfold st; rw [if_pos (.inl i0)]
    have hn := fnd_none h0
    rw [putS_none hf hm (by rw [A.kd]; exact hn), if_neg (by omega)]
    obtain ⟨m, hme⟩ : ∃ m, m = addG ⟨x.1.kd, now, zF, .slice none 0 0, []⟩ x.1 (nPc x.1 x.2 (b + i)) := ⟨_, rfl⟩
    have mk : m.kd = k := by rw [hme, addG_kd]; exact A.kd
    have mL : m.L = pcs (l.take (i + 1)) b := by
      rw [hme, addG_L, sn, i0, List.take_zero]
      rfl
    rw [← hme]
    obtain ⟨F1, F2⟩ := fin_chn (S1 := S) (S2 := S ++ [m]) hc hi hD mL
    by_cases e : i + 1 = l.length
    · obtain ⟨h, g, eq⟩ := F1 e
      rw [eq]
      refine ⟨_, rfl, by simp [e], rfl, fun _ => rfl, ?_, fun _ _ => rfl, fun m hm => .inr hm⟩
      rw [stn (i + 1) (by omega)]
      exact h0
    · rw [F2 e]
      refine ⟨_, rfl, by simp [e], rfl, fun h => (by cases h), ?_, fun k' hk => ?_, fun m' hm' => ?_⟩
      · rw [stm (i + 1) (by omega) (by omega), hp_app, h0, hp_yes mk, mL]
        rfl
      · rw [hp_app, hp_no (by rw [mk]; exact hk.symm)]
        simp [hp]
      · rcases List.mem_append.1 hm' with h | h
        · exact .inr h
        · rw [List.mem_singleton.1 h]; exact .inl mk
  · have h1 : hp k S = [pcs (l.take i) b] := by rw [hs, stm i ip hi]
    obtain ⟨j, m0, f1, f2, f3, f4, f5, f6, f7⟩ := fnd_one h1
    have no : m0.L.any (odds (nPc x.1 x.2 (b + i))) = false := by
      rw [f4, List.any_eq_false]
      intro y hy
      obtain ⟨y1, y2, y3⟩ := A.bh y hy
      have xe : (nPc x.1 x.2 (b + i)).end_ = x.1.off + (x.2.length : Int) := rfl
      have xa : (nPc x.1 x.2 (b + i)).at_ = x.1.off := rfl
      unfold odds
      rw [y1, xe, xa, decide_eq_false (show ¬ x.1.off < y.end_ by omega), decide_eq_false (show ¬ x.1.off + (x.2.length : Int) < y.end_ by omega)]
      simp
    rw [putS_some hf hm (by rw [A.kd]; exact f1) f2, if_neg (by rw [no]; decide), if_neg (by omega)]
    obtain ⟨m, hme⟩ : ∃ m, m = addG m0 x.1 (nPc x.1 x.2 (b + i)) := ⟨_, rfl⟩
    have mk : m.kd = k := by rw [hme, addG_kd]; exact f3
    have mL : m.L = pcs (l.take (i + 1)) b := by rw [hme, addG_L, sn, f4]
    rw [← hme]
    obtain ⟨F1, F2⟩ := fin_chn (S1 := S.eraseIdx j) (S2 := S.set j m) hc hi hD mL
    by_cases e : i + 1 = l.length
    · obtain ⟨h, g, eq⟩ := F1 e
      rw [eq]
      refine ⟨_, rfl, by simp [e], rfl, fun _ => rfl, ?_, fun k' hk => (f7 k' hk).1, fun m hm => .inr ((List.eraseIdx_sublist S j).subset hm)⟩
      rw [stn (i + 1) (by omega)]
      exact f5
    · rw [F2 e]
      refine ⟨_, rfl, by simp [e], rfl, fun h => (by cases h), ?_, fun k' hk => (f7 k' hk).2 m mk, fun m' hm' => ?_⟩
      · rw [stm (i + 1) (by omega) (by omega), f6 m mk, mL]
      · rcases List.mem_or_eq_of_mem_set hm' with h | h
        · exact .inr h
        · rw [h]; exact .inl mk
end Go.Proofs.Ytgempelfamjabaa
