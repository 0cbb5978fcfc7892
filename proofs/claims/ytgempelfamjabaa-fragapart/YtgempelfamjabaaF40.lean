
/-
  FragBounds in numbers: what is told and what is held are, together, what was put in.
-/
import Derived.Test.YtgempelfamjabaaF36
namespace Go.Proofs.Ytgempelfamjabaa
open Go.RowKit Go.Shelf

theorem perm_find {α : Type} {q : α → Bool} {R : α → α → Prop} (hR : ∀ x y, R x y → R y x) : ∀ {L : List α} {x : α}, L.Pairwise R → L.find? q = some x → ∃ M : List α, L.Perm (x :: M) ∧ (∀ y ∈ M, R x y)
  | [], x, _, h => by simp at h
  | a :: L, x, hp, h => by
    rw [List.pairwise_cons] at hp
    by_cases hq : q a = true
    · rw [List.find?_cons_of_pos hq] at h
      cases h
      exact ⟨L, List.Perm.refl _, hp.1⟩
    · rw [List.find?_cons_of_neg hq] at h
      obtain ⟨M, h1, h2⟩ := perm_find hR hp.2 h
      refine ⟨a :: M, (h1.cons a).trans (List.Perm.swap x a M), fun y hy => ?_⟩
      rcases List.mem_cons.1 hy with rfl | hy
      · exact hR _ _ (hp.1 x (List.mem_of_find?_eq_some h))
      · exact h2 y hy
/-- all pieces from e on, each once -/
theorem ordF_perm {L : List Pc} (hne : ∀ x ∈ L, x.last = false → 8 ≤ x.D.length) (hod : L.Pairwise (fun x y => odds x y = false)) : ∀ (f : Nat) (e : Int) (A : List Pc), ordF L f e = some A → A.Perm (L.filter (fun x => decide (e ≤ x.at_)))
  | 0, e, A, h => by simp [ordF] at h
  | f + 1, e, A, h => by
    cases hx : L.find? (fun x => x.at_ == e) with
    | none => rw [ordF_none hx] at h; cases h
    | some x =>
      rw [ordF_some hx] at h
      have xe : x.at_ = e := by have := List.find?_some hx; simpa using this
      have xm := List.mem_of_find?_eq_some hx
      obtain ⟨M, hM, hy⟩ := perm_find (fun x y h => by rw [odds_comm]; exact h) hod hx
      have hfil := hM.filter (fun x => decide (e ≤ x.at_))
      rw [List.filter_cons_of_pos (by rw [xe]; simp)] at hfil
      have MN : ∀ y ∈ M, y.last = false → 8 ≤ y.D.length := fun y hy => hne y (hM.mem_iff.2 (List.mem_cons_of_mem _ hy))
      by_cases hl : x.last = true
      · rw [if_pos hl] at h
        cases h
        have : M.filter (fun x => decide (e ≤ x.at_)) = [] := by
          rw [List.filter_eq_nil_iff]
          intro y hyM hle
          have hle : e ≤ y.at_ := by simpa using hle
          have o := hy y hyM
          unfold odds at o
          rw [hl] at o
          simp only [Bool.true_and, Bool.or_eq_false_iff, decide_eq_false_iff_not, Bool.and_eq_false_iff] at o
          have yl : y.last = false := o.2.1
          have y8 := MN y hyM yl
          have := o.2.2.1
          unfold Pc.end_ at *
          rcases o.1 with o1 | o1 <;> omega
        rw [this] at hfil
        exact hfil.symm
      · rw [if_neg hl] at h
        have hl : x.last = false := by simpa using hl
        cases ho : ordF L f x.end_ with
        | none => rw [ho] at h; cases h
        | some B =>
          rw [ho] at h
          cases h
          have ih := ordF_perm hne hod f x.end_ B ho
          have x8 := hne x xm hl
          have e2 : M.filter (fun x => decide (e ≤ x.at_)) = M.filter (fun y => decide (x.end_ ≤ y.at_)) := by
            apply List.filter_congr
            intro y hyM
            have o := hy y hyM
            unfold odds at o
            rw [hl] at o
            simp only [Bool.false_and, Bool.false_or, Bool.or_eq_false_iff, decide_eq_false_iff_not, Bool.and_eq_false_iff] at o
            have y8 := MN y hyM
            by_cases h1 : x.end_ ≤ y.at_
            · rw [decide_eq_true h1, decide_eq_true (by unfold Pc.end_ at h1; omega)]
            · rw [decide_eq_false h1, decide_eq_false]
              intro h2
              have o2 := o.2
              cases yl : y.last with
              | false =>
                have := y8 yl
                unfold Pc.end_ at *
                rcases o.1 with o1 | o1 <;> omega
              | true =>
                rw [yl] at o2
                unfold Pc.end_ at *
                simp at o2
                rcases o.1 with o1 | o1 <;> omega
          have e3 := hM.filter (fun y => decide (x.end_ ≤ y.at_))
          rw [List.filter_cons_of_neg (by simp; unfold Pc.end_; omega)] at e3
          rw [e2] at hfil
          exact ((ih.trans e3).cons x).trans hfil.symm
theorem ord_perm {L : List Pc} (hne : ∀ x ∈ L, x.last = false → 8 ≤ x.D.length) (hod : L.Pairwise (fun x y => odds x y = false)) (h0 : ∀ x ∈ L, 0 ≤ x.at_) (h : ord L ≠ []) : (ord L).Perm L := by
  unfold ord at h ⊢
  cases ho : ordF L 1025 0 with
  | none => rw [ho] at h; exact absurd rfl h
  | some A =>
    have := ordF_perm hne hod 1025 0 A ho
    rw [List.filter_eq_self.2 (fun x hx => by simpa using h0 x hx)] at this
    exact this
/-- the buffers that are held -/
def bfS (S : List Gm) : List Int := S.flatMap (fun m => m.L.map (·.buf))
theorem gbf_abs (G : List (Nat × Gm)) : gbf G = bfS (absG G) := by
  unfold gbf bfS absG
  rw [List.flatMap_map]
  congr 1
  funext p
  show p.2.L.map (·.buf) = (p.2.L.map Pc.n).map (·.buf)
  rw [List.map_map]
  rfl
def AtS (S : List Gm) : Prop := ∀ m ∈ S, ∀ x ∈ m.L, 0 ≤ x.at_
theorem bfS_erase : ∀ (S : List Gm) (i : Nat) (m : Gm), S[i]? = some m → (bfS S).Perm (m.L.map (·.buf) ++ bfS (S.eraseIdx i))
  | [], i, m, h => by simp at h
  | a :: S, 0, m, h => by
    cases h
    exact List.Perm.refl _
  | a :: S, i + 1, m, h => by
    have ih := bfS_erase S i m (by simpa using h)
    show (a.L.map (·.buf) ++ bfS S).Perm (m.L.map (·.buf) ++ (a.L.map (·.buf) ++ bfS (S.eraseIdx i)))
    refine (ih.append_left _).trans ?_
    rw [← List.append_assoc, ← List.append_assoc]
    exact List.perm_append_comm.append_right _
theorem bfS_set : ∀ (S : List Gm) (i : Nat) (m m' : Gm), S[i]? = some m → (bfS (S.set i m')).Perm (m'.L.map (·.buf) ++ bfS (S.eraseIdx i))
  | [], i, m, _, h => by simp at h
  | a :: S, 0, m, m', h => List.Perm.refl _
  | a :: S, i + 1, m, m', h => by
    have ih := bfS_set S i m m' (by simpa using h)
    show (a.L.map (·.buf) ++ bfS (S.set i m')).Perm (m'.L.map (·.buf) ++ (a.L.map (·.buf) ++ bfS (S.eraseIdx i)))
    refine (ih.append_left _).trans ?_
    rw [← List.append_assoc, ← List.append_assoc]
    exact List.perm_append_comm.append_right _
theorem bfS_app (A B : List Gm) : bfS (A ++ B) = bfS A ++ bfS B := List.flatMap_append
/-- a datagram is whole: its buffers are told, or it stays -/
theorem finS_perm {m : Gm} {a b : List Gm} (hok : OkM m) (h0 : ∀ x ∈ m.L, 0 ≤ x.at_) (hb : (bfS b).Perm (m.L.map (·.buf) ++ bfS a)) : (outB (finS m a b).1 ++ ((finS m a b).2.1 ++ bfS (finS m a b).2.2)).Perm (m.L.map (·.buf) ++ bfS a) := by
  unfold finS
  split
  · exact hb
  · rename_i h
    exact (((ord_perm hok.ne hok.od h0 h).map (·.buf)).append_right _)
theorem putS_perm {S : List Gm} (h : OkS S) (ha : AtS S) (p : Pk) (D : List Int) (buf now : Int) : (outB (putS p D buf now S).1 ++ ((putS p D buf now S).2.1 ++ bfS (putS p D buf now S).2.2)).Perm (bfS S ++ [buf]) := by
  have sw : ([buf] ++ bfS S).Perm (bfS S ++ [buf]) := List.perm_append_comm
  by_cases hf : frg p = true
  case neg =>
    unfold putS
    rw [if_pos (by simpa using hf)]
    exact sw
  by_cases hm : myb p D.length = true
  case neg =>
    unfold putS
    rw [if_neg (by rw [hf]; decide), if_pos (by simpa using hm)]
    exact sw
  have hat := (myb_bd hm).1
  cases hi : fndI p.kd S with
  | some i =>
    obtain ⟨m, hS, _⟩ := fndI_at hi
    rw [putS_some hf hm hi hS]
    have hmem := List.mem_of_getElem? hS
    have er := bfS_erase S i m hS
    have fin : (m.L.map (·.buf) ++ [buf] ++ bfS (S.eraseIdx i)).Perm (bfS S ++ [buf]) := by
      refine List.Perm.trans ?_ (er.append_right [buf]).symm
      rw [List.append_assoc, List.append_assoc]
      exact List.perm_append_comm.append_left _
    by_cases ho : m.L.any (odds (nPc p D buf)) = true
    · rw [if_pos ho]; exact fin
    · rw [if_neg ho]
      by_cases hs : 2048 < szS S + D.length
      · rw [if_pos hs]; exact sw
      · rw [if_neg hs]
        refine (finS_perm ((h.m m hmem).add hm (by simpa using ho)) (fun x hx => ?_) (bfS_set S i m _ hS)).trans ?_
        · rw [addG_L] at hx
          rcases List.mem_append.1 hx with hx | hx
          · exact ha m hmem x hx
          · rw [List.mem_singleton.1 hx]; exact hat
        · rw [addG_L, List.map_append]
          exact fin
  | none =>
    rw [putS_none hf hm hi]
    by_cases hs : S.length = 4 ∨ 2048 < szS S + D.length
    · rw [if_pos hs]; exact sw
    · rw [if_neg hs]
      refine (finS_perm (OkM.add ⟨fun x hx => (by cases hx), List.Pairwise.nil⟩ hm rfl) (fun x hx => ?_) ?_).trans ?_
      · rw [addG_L] at hx
        rw [List.mem_singleton.1 hx]; exact hat
      · have one : ∀ m : Gm, bfS [m] = m.L.map (·.buf) := fun m => by simp [bfS]
        rw [bfS_app, one]
        exact List.perm_append_comm
      · rw [addG_L]
        exact sw
theorem AtS.put {S : List Gm} (ha : AtS S) (p : Pk) (D : List Int) (buf now : Int) : AtS (putS p D buf now S).2.2 := by
  by_cases hf : frg p = true
  case neg =>
    unfold putS
    rw [if_pos (by simpa using hf)]
    exact ha
  by_cases hm : myb p D.length = true
  case neg =>
    unfold putS
    rw [if_neg (by rw [hf]; decide), if_pos (by simpa using hm)]
    exact ha
  have hat := (myb_bd hm).1
  have er : ∀ i, AtS (S.eraseIdx i) := fun i m hm => ha m ((List.eraseIdx_sublist S i).subset hm)
  cases hi : fndI p.kd S with
  | some i =>
    obtain ⟨m, hS, _⟩ := fndI_at hi
    rw [putS_some hf hm hi hS]
    have hmem := List.mem_of_getElem? hS
    split
    · exact er i
    · split
      · exact ha
      · unfold finS
        split
        · intro m' hm'
          rcases List.mem_or_eq_of_mem_set hm' with h1 | h1
          · exact ha m' h1
          · rw [h1, addG_L]
            intro x hx
            rcases List.mem_append.1 hx with hx | hx
            · exact ha m hmem x hx
            · rw [List.mem_singleton.1 hx]; exact hat
        · exact er i
  | none =>
    rw [putS_none hf hm hi]
    split
    · exact ha
    · unfold finS
      split
      · intro m' hm'
        rcases List.mem_append.1 hm' with h1 | h1
        · exact ha m' h1
        · rw [List.mem_singleton.1 h1, addG_L]
          intro x hx
          rw [List.mem_singleton.1 hx]; exact hat
      · exact ha
/-- whole, just when buffers are told with it -/
theorem putS_is (p : Pk) (D : List Int) (buf now : Int) (S : List Gm) : (putS p D buf now S).1.isSome = decide ((outB (putS p D buf now S).1).length ≠ 0) := by
  have fin : ∀ (m : Gm) (a b : List Gm), (finS m a b).1.isSome = decide ((outB (finS m a b).1).length ≠ 0) := fun m a b => by
    unfold finS
    split
    · rfl
    · rename_i h
      show true = decide (((ord m.L).map (·.buf)).length ≠ 0)
      rw [List.length_map]
      exact (decide_eq_true (p := (ord m.L).length ≠ 0) (fun e => h (List.length_eq_zero_iff.1 e))).symm
  by_cases hf : frg p = true
  case neg =>
    unfold putS
    rw [if_pos (by simpa using hf)]
    rfl
  by_cases hm : myb p D.length = true
  case neg =>
    unfold putS
    rw [if_neg (by rw [hf]; decide), if_pos (by simpa using hm)]
    rfl
  cases hi : fndI p.kd S with
  | some i =>
    obtain ⟨m, hS, _⟩ := fndI_at hi
    rw [putS_some hf hm hi hS]
    split
    · rfl
    · split
      · rfl
      · exact fin _ _ _
  | none =>
    rw [putS_none hf hm hi]
    split
    · rfl
    · exact fin _ _ _
end Go.Proofs.Ytgempelfamjabaa
