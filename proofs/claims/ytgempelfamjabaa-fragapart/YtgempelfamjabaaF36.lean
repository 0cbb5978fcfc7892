
/-
  Package frag: Split. Package frag: Put, all cases; what holds of datagrams that are held. A law's call of Put: 'w, is, gone := f.Put(..)', whichever of the call and of w's own block comes first. The chapter's example, in numbers; what a law's text needs besides.
-/
import Derived.Test.YtgempelfamjabaaF32
import Derived.Laws.OwnMore
namespace Go.Proofs.Ytgempelfamjabaa
open Go.RowKit Go.Shelf

def spE (p : Pk) (n : Nat) (mtu : Int) : Int := if mtu < 68 ∨ p.off ≠ 0 ∨ p.more = true ∨ 40 < p.opts.length then 1 else if p.whole = true ∧ mtu - 20 - p.opts.length < n then 2 else 0
def spL (p : Pk) (D : List Int) (mtu : Int) : List (Pk × List Int) := if spE p D.length mtu = 0 then cutS p D mtu.toNat else []
set_option maxRecDepth 100000 in
set_option maxHeartbeats 8000000 in
theorem split_any {P Q : Nat → Prop} (p : Pk) (ov : Value) (w : World) (ho : CB P w ov p.opts) (hB : Bytes p.opts) (hol : p.opts.length ≤ 140737488355328) (bv0 : Value) (D : List Int) (hd : CB Q w bv0 D) (hdl : D.length ≤ 10000000) (mtu : Int) (hm : mtu ≤ 9223372036854775807) :
    Calls Try.prog 10 #[.agg (p.cells ov).toArray, bv0, .int .i64 mtu] w fun e w' => ∃ v, e = .returned (.tuple #[v, .int .i64 (spE p D.length mtu)]) ∧ ∃ (τ : Nat → Nat × Nat) (L : List Pi), PiAt τ w.heap.size w' v L ∧ L.map Pi.ab = spL p D mtu ∧ Below w.heap.size w w' := by
  rw [show (Value.agg (p.cells ov).toArray) = .agg #[.int .u8 p.src.a, .int .u8 p.src.b, .int .u8 p.src.c, .int .u8 p.src.d, .int .u8 p.dst.a, .int .u8 p.dst.b, .int .u8 p.dst.c, .int .u8 p.dst.d, .int .i64 p.proto, .int .i64 p.ttl, .int .i64 p.id, .int .i64 p.tos, .bool p.whole, .bool p.more, .int .i64 p.off, ov] from rfl]
  obtain ⟨w1, s, hs, hw1, c1, f1, b1, l1⟩ := boxP w p ov
  obtain ⟨X, hX⟩ : ∃ X, X = p.cells ov := ⟨_, rfl⟩
  have LX : Hid (X.length = 16) := by rw [hX]; exact rfl
  have CX : Hid (CellsAt w1 s 0 X) := by rw [hX]; exact c1
  obtain ⟨oa, oc, rfl⟩ := ho.shape
  obtain ⟨da, dc, rfl⟩ := hd.shape
  obtain ⟨n0, hn0⟩ : ∃ n0, n0 = p.opts.length := ⟨_, rfl⟩
  obtain ⟨dn, hdn⟩ : ∃ dn, dn = D.length := ⟨_, rfl⟩
  have k15 : w1.cell? ⟨s, 15, none⟩ = some (.slice oa n0 oc) := by rw [hn0]; exact c1 15 _ rfl
  have k14 : w1.cell? ⟨s, 14, none⟩ = some (.int .i64 p.off) := c1 14 _ rfl
  have k13 : w1.cell? ⟨s, 13, none⟩ = some (.bool p.more) := c1 13 _ rfl
  have k12 : w1.cell? ⟨s, 12, none⟩ = some (.bool p.whole) := c1 12 _ rfl
  have HO := hide (ho.later b1)
  have HD := hide (hd.later b1)
  rw [← hdn] at HD ⊢
  rw [← hn0] at HO hw1 ⊢
  have EE : Hid (spE p dn mtu = if mtu < 68 ∨ p.off ≠ 0 ∨ p.more = true ∨ 40 < n0 then 1 else if p.whole = true ∧ mtu - 20 - n0 < dn then 2 else 0) := by unfold spE; rw [← hn0]; rfl
  have EL : Hid (spL p D mtu = if spE p dn mtu = 0 then cutS p D mtu.toNat else []) := by unfold spL; rw [← hdn]; rfl
  have B1 := hide b1
  have HBY := hide hB
  have HN0 := hide hn0
  have HDN := hide hdn
  have HX := hide hX
  have hs' := hs.symm
  have HSS := hide hs'
  have hw1' := hw1.symm
  have hdl' : (dn : Int) ≤ 10000000 := by omega
  have hnl : (n0 : Int) ≤ 140737488355328 := by omega
  obtain ⟨mo, hmo⟩ : ∃ mo, mo = p.more := ⟨_, rfl⟩
  obtain ⟨wh, hwh⟩ : ∃ wh, wh = p.whole := ⟨_, rfl⟩
  obtain ⟨of, hof⟩ : ∃ of, of = p.off := ⟨_, rfl⟩
  rw [← hmo, ← hwh, ← hof] at EE hw1' ⊢
  rw [← hmo] at k13
  rw [← hwh] at k12
  rw [← hof] at k14
  have HMO := hide hmo
  have HOF := hide hof
  have NONE : ∀ x : Int, spE p dn mtu = x → x ≠ 0 → ∃ v, (Ending.returned (.tuple #[.slice none 0 0, .int .i64 x]) : Ending) = .returned (.tuple #[v, .int .i64 (spE p dn mtu)]) ∧ ∃ (τ : Nat → Nat × Nat) (L : List Pi), PiAt τ w.heap.size w1 v L ∧ L.map Pi.ab = spL p D mtu ∧ Below w.heap.size w w1 := fun x e h0 => by
    refine ⟨_, by rw [e], fun _ => (0, 0), [], PiAt.nil _ _ _, ?_, B1.out⟩
    rw [EL.out, e, if_neg h0]
    rfl
  have HNONE := hide NONE
  clear hs hw1 c1 f1 b1 ho hd hB hX hn0 hdn hmo hwh hof hdl NONE
  go_enter Try.func10, Try.ntmps10
  by_cases e1 : mtu < 68
  · have R := hide (HNONE.out 1 (by rw [EE.out, if_pos (.inl e1)]) (by decide))
    clear EE EL HNONE
    go_wp2
    refine bodyPost_ret (v := .tuple #[.slice none 0 0, .int .i64 1]) (by simp [results, go_sem]) rfl ?_
    first | exact R.out | (have h := R.out; rw [HSS.out] at h; exact h)
  by_cases e2 : of = 0
  case neg =>
    have R := hide (HNONE.out 1 (by rw [EE.out, if_pos (.inr (.inl e2))]) (by decide))
    have q2 : (of != 0) = true := by simpa using e2
    clear EE EL HNONE e2
    go_wp2
    refine bodyPost_ret (v := .tuple #[.slice none 0 0, .int .i64 1]) (by simp [results, go_sem]) rfl ?_
    first | exact R.out | (have h := R.out; rw [HSS.out] at h; exact h)
  have q2 : (of != 0) = false := by simpa using e2
  cases mo with
  | true =>
    have R := hide (HNONE.out 1 (by rw [EE.out, if_pos (.inr (.inr (.inl rfl)))]) (by decide))
    clear EE EL HNONE e2
    go_wp2
    refine bodyPost_ret (v := .tuple #[.slice none 0 0, .int .i64 1]) (by simp [results, go_sem]) rfl ?_
    first | exact R.out | (have h := R.out; rw [HSS.out] at h; exact h)
  | false =>
    by_cases e4 : 40 < n0
    · have R := hide (HNONE.out 1 (by rw [EE.out, if_pos (.inr (.inr (.inr e4)))]) (by decide))
      have q4 : (40 : Int) < (n0 : Int) := by omega
      clear EE EL HNONE e2 e4
      go_wp2
      refine bodyPost_ret (v := .tuple #[.slice none 0 0, .int .i64 1]) (by simp [results, go_sem]) rfl ?_
      first | exact R.out | (have h := R.out; rw [HSS.out] at h; exact h)
    have q4 : ¬ (40 : Int) < (n0 : Int) := by omega
    have EE2 : Hid (spE p dn mtu = if wh = true ∧ mtu - 20 - n0 < dn then 2 else 0) := by
      rw [EE.out]
      refine if_neg ?_
      rintro (e | e | e | e)
      · exact e1 e
      · exact e e2
      · cases e
      · exact e4 e
    have RO := hide (roomFor_any oa n0 oc mtu w1 (by omega) (by omega) hm)
    have CU : Hid (Calls Try.prog 25 #[.agg X.toArray, .slice da dn dc, .int .i64 mtu] w1 fun e w' => ∃ v, e = .returned v ∧ ∃ (τ : Nat → Nat × Nat) (L : List Pi), PiAt τ w1.heap.size w' v L ∧ L.map Pi.ab = cutS p D mtu.toNat ∧ Below w1.heap.size w1 w') := by
      have hO := HO.out
      have hmt : ((mtu.toNat : Nat) : Int) = mtu := by omega
      have C := cut_any p _ w1 hO HBY.out (by have := HN0.out; omega) _ D HD.out (by have := HDN.out; omega) mtu.toNat (by omega) (by omega) (by rw [← HOF.out]; exact e2)
      rw [hmt] at C
      rw [HX.out, ← HN0.out]
      exact C
    have DONE : Hid (spE p dn mtu = 0 → ∀ v w', (∃ (τ : Nat → Nat × Nat) (L : List Pi), PiAt τ w1.heap.size w' v L ∧ L.map Pi.ab = cutS p D mtu.toNat ∧ Below w1.heap.size w1 w') → ∃ u, (Ending.returned (.tuple #[v, .int .i64 0]) : Ending) = .returned (.tuple #[u, .int .i64 (spE p dn mtu)]) ∧ ∃ (τ : Nat → Nat × Nat) (L : List Pi), PiAt τ w.heap.size w' u L ∧ L.map Pi.ab = spL p D mtu ∧ Below w.heap.size w w') := fun e v w' ⟨τ, L, h1, h2, h3⟩ => by
      have z := B1.out.size
      refine ⟨v, by rw [e], τ, L, ⟨h1.row.own (fun g _ e => ⟨e.1, Nat.le_trans z e.2⟩), fun i x hx => (h1.hv i x hx).own (fun g _ e => ⟨e.1, Nat.le_trans z e.2⟩), fun i x hx => (h1.dv i x hx).own (fun g _ e => ⟨e.1, Nat.le_trans z e.2⟩)⟩, ?_, later B1.out h3⟩
      rw [EL.out, if_pos e]
      exact h2
    cases wh with
    | true =>
      by_cases e5 : mtu - 20 - n0 < dn
      · have R := hide (HNONE.out 2 (by rw [EE2.out, if_pos ⟨rfl, e5⟩]) (by decide))
        clear EE EE2 EL HNONE e2 CU DONE
        go_wp2_with fail
        refine RO.out.mono ?_
        rintro _ wq ⟨rfl, hwq⟩
        rw [hwq]
        clear hwq wq RO
        go_wp2
        refine bodyPost_ret (v := .tuple #[.slice none 0 0, .int .i64 2]) (by simp [results, go_sem]) rfl ?_
        first | exact R.out | (have h := R.out; rw [HSS.out] at h; exact h)
      · have EZ : Hid (spE p dn mtu = 0) := by rw [EE2.out, if_neg (fun e => e5 e.2)]; rfl
        clear EE EE2 EL HNONE e2
        go_wp2_with fail
        refine RO.out.mono ?_
        rintro _ wq ⟨rfl, hwq⟩
        rw [hwq]
        clear hwq wq RO
        go_wp2_with (refine wpList_loadA rfl 26 16 aggP sizP _ rfl s 0 rfl X LX.out CX.out ?_)
        refine CU.out.mono ?_
        rintro _ wz ⟨v, rfl, hv⟩
        have R := hide (DONE.out EZ.out v wz hv)
        clear hv CU DONE
        go_wp2
        refine bodyPost_ret (v := .tuple #[v, .int .i64 0]) (by simp [results, go_sem]) rfl ?_
        first | exact R.out | (have h := R.out; rw [HSS.out] at h; exact h)
    | false =>
      have EZ : Hid (spE p dn mtu = 0) := by rw [EE2.out, if_neg (fun e => by cases e.1)]; rfl
      clear EE EE2 EL HNONE e2 RO
      go_wp2_with (refine wpList_loadA rfl 26 16 aggP sizP _ rfl s 0 rfl X LX.out CX.out ?_)
      refine CU.out.mono ?_
      rintro _ wz ⟨v, rfl, hv⟩
      have R := hide (DONE.out EZ.out v wz hv)
      clear hv CU DONE
      go_wp2
      refine bodyPost_ret (v := .tuple #[v, .int .i64 0]) (by simp [results, go_sem]) rfl ?_
      first | exact R.out | (have h := R.out; rw [HSS.out] at h; exact h)

theorem odds_comm (x y : Pc) : odds x y = odds y x := by
  unfold odds
  rw [Bool.and_comm (decide (x.at_ < y.end_)), Bool.and_comm x.last y.last, Bool.or_comm (x.last && decide (x.end_ < y.end_))]
/-- a datagram that is held: its pieces are not at odds, none but a last one is without bytes -/
structure OkM (m : Gm) : Prop where
  ne : ∀ x ∈ m.L, x.last = false → 8 ≤ x.D.length
  od : m.L.Pairwise (fun x y => odds x y = false)
structure OkS (S : List Gm) : Prop where
  m : ∀ m ∈ S, OkM m
  sz : szS S ≤ 2048
theorem last_one : ∀ (L : List Pc), L.Pairwise (fun x y => odds x y = false) → (L.filter (fun x => x.last)).length ≤ 1
  | [], _ => by simp
  | x :: L, h => by
    obtain ⟨h1, h2⟩ := List.pairwise_cons.1 h
    by_cases hx : x.last = true
    · rw [List.filter_cons_of_pos (p := fun x : Pc => x.last) hx]
      have : L.filter (fun x => x.last) = [] := by
        rw [List.filter_eq_nil_iff]
        intro y hy hl
        have := h1 y hy
        unfold odds at this
        rw [hx, hl] at this
        simp at this
      rw [this]
      simp
    · rw [List.filter_cons_of_neg (p := fun x : Pc => x.last) hx]
      exact last_one L h2
theorem len_le : ∀ (L : List Pc), (∀ x ∈ L, x.last = false → 8 ≤ x.D.length) → L.length * 8 ≤ szP L + (L.filter (fun x => x.last)).length * 8
  | [], _ => by simp
  | x :: L, h => by
    have ih := len_le L (fun y hy => h y (List.mem_cons_of_mem _ hy))
    have e : szP (x :: L) = x.D.length + szP L := by simp [szP]
    rw [e, List.length_cons]
    by_cases hx : x.last = true
    · rw [List.filter_cons_of_pos (p := fun x : Pc => x.last) hx, List.length_cons]
      omega
    · rw [List.filter_cons_of_neg (p := fun x : Pc => x.last) hx]
      have := h x (List.mem_cons_self) (by simpa using hx)
      omega
theorem szS_mem {S : List Gm} {m : Gm} (h : m ∈ S) : szP m.L ≤ szS S := by
  induction S with
  | nil => cases h
  | cons a S ih =>
    have e : szS (a :: S) = szP a.L + szS S := by simp [szS]
    rcases List.mem_cons.1 h with rfl | h
    · omega
    · have := ih h; omega
theorem OkS.len {S : List Gm} (h : OkS S) {m : Gm} (hm : m ∈ S) : m.L.length ≤ 257 := by
  have h1 := len_le m.L (h.m m hm).ne
  have h2 := last_one m.L (h.m m hm).od
  have h3 := szS_mem hm
  have := h.sz
  omega
theorem OkS.nil : OkS [] := ⟨fun m hm => (by cases hm), by simp [szS]⟩
theorem abs_mem {G : List (Nat × Gm)} {q : Nat × Gm} (h : q ∈ G) : q.2.n ∈ absG G := List.mem_map_of_mem h
theorem OkS.hL {G : List (Nat × Gm)} (h : OkS (absG G)) : ∀ q ∈ G, q.2.L.length < 600 ∧ ∀ x ∈ q.2.L, x.last = false → 0 < x.D.length := fun q hq => by
  have h1 := h.len (abs_mem hq)
  have e : q.2.n.L = q.2.L.map Pc.n := rfl
  rw [e, List.length_map] at h1
  refine ⟨by omega, fun x hx hl => ?_⟩
  have := (h.m _ (abs_mem hq)).ne x.n (by rw [e]; exact List.mem_map_of_mem hx) hl
  have : 8 ≤ x.D.length := this
  omega
theorem szS_erase : ∀ (S : List Gm) (i : Nat), szS (S.eraseIdx i) ≤ szS S
  | [], i => by simp
  | a :: S, 0 => by simp [szS]
  | a :: S, i + 1 => by
    have := szS_erase S i
    simp only [szS, List.eraseIdx_cons_succ, List.map_cons, List.sum_cons] at this ⊢
    omega
theorem OkS.erase {S : List Gm} (h : OkS S) (i : Nat) : OkS (S.eraseIdx i) :=
  ⟨fun m hm => h.m m ((List.eraseIdx_sublist S i).subset hm), Nat.le_trans (szS_erase S i) h.sz⟩
theorem szS_set : ∀ (S : List Gm) (i : Nat) (m m' : Gm) (k : Nat), S[i]? = some m → szP m'.L = szP m.L + k → szS (S.set i m') = szS S + k
  | [], i, m, m', k, h, _ => by simp at h
  | a :: S, 0, m, m', k, h, e => by
    cases h
    simp only [szS, List.set_cons_zero, List.map_cons, List.sum_cons] at *
    omega
  | a :: S, i + 1, m, m', k, h, e => by
    have := szS_set S i m m' k (by simpa using h) e
    simp only [szS, List.set_cons_succ, List.map_cons, List.sum_cons] at *
    omega
theorem szP_app (L : List Pc) (x : Pc) : szP (L ++ [x]) = szP L + x.D.length := by simp [szP]
theorem myb_8 {p : Pk} {n : Nat} (h : myb p n = true) (hm : p.more = true) : 8 ≤ n := by
  unfold myb at h
  simp only [Bool.and_eq_true, Bool.or_eq_true, decide_eq_true_eq, Bool.not_eq_true'] at h
  obtain ⟨_, _, h3, _⟩ := h
  rcases h3 with h3 | h3
  · rw [h3] at hm; cases hm
  · omega
theorem OkM.add {m : Gm} (h : OkM m) {p : Pk} {D : List Int} {buf : Int} (hm : myb p D.length = true) (ho : m.L.any (odds (nPc p D buf)) = false) : OkM (addG m p (nPc p D buf)) := by
  refine ⟨fun x hx hl => ?_, ?_⟩
  · rw [addG_L] at hx
    rcases List.mem_append.1 hx with hx | hx
    · exact h.ne x hx hl
    · rw [List.mem_singleton.1 hx] at hl ⊢
      refine myb_8 hm ?_
      have : (!p.more) = false := hl
      simpa using this
  · rw [addG_L, List.pairwise_append]
    refine ⟨h.od, List.pairwise_singleton _ _, fun x hx y hy => ?_⟩
    rw [List.mem_singleton.1 hy, odds_comm]
    have := List.any_eq_false.1 ho x hx
    simpa using this
theorem fndI_at {k : Kd} {S : List Gm} {i : Nat} (h : fndI k S = some i) : ∃ m, S[i]? = some m ∧ m.kd = k := by
  unfold fndI at h
  rw [List.findIdx?_eq_some_iff_getElem] at h
  obtain ⟨h1, h2, _⟩ := h
  exact ⟨S[i], List.getElem?_eq_getElem h1, by simpa [eqKd] using h2⟩
/-- Put keeps it -/
theorem OkS.put {S : List Gm} (h : OkS S) (p : Pk) (D : List Int) (buf now : Int) : OkS (putS p D buf now S).2.2 := by
  by_cases hf : frg p = true
  case neg =>
    unfold putS
    rw [if_pos (by simpa using hf)]
    exact h
  by_cases hm : myb p D.length = true
  case neg =>
    unfold putS
    rw [if_neg (by rw [hf]; decide), if_pos (by simpa using hm)]
    exact h
  cases hi : fndI p.kd S with
  | some i =>
    obtain ⟨m, hS, _⟩ := fndI_at hi
    rw [putS_some hf hm hi hS]
    have hmem := List.mem_of_getElem? hS
    by_cases ho : m.L.any (odds (nPc p D buf)) = true
    · rw [if_pos ho]; exact h.erase i
    · rw [if_neg ho]
      by_cases hs : 2048 < szS S + D.length
      · rw [if_pos hs]; exact h
      · rw [if_neg hs]
        unfold finS
        split
        · refine ⟨fun m' hm' => ?_, ?_⟩
          · rcases List.mem_or_eq_of_mem_set hm' with h1 | h1
            · exact h.m m' h1
            · rw [h1]; exact (h.m m hmem).add hm (by simpa using ho)
          · rw [szS_set S i m _ D.length hS (by rw [addG_L, szP_app]; rfl)]
            omega
        · exact h.erase i
  | none =>
    rw [putS_none hf hm hi]
    by_cases hs : S.length = 4 ∨ 2048 < szS S + D.length
    · rw [if_pos hs]; exact h
    · rw [if_neg hs]
      unfold finS
      split
      · refine ⟨fun m' hm' => ?_, ?_⟩
        · rcases List.mem_append.1 hm' with h1 | h1
          · exact h.m m' h1
          · rw [List.mem_singleton.1 h1]
            refine OkM.add ⟨fun x hx => (by cases hx), List.Pairwise.nil⟩ hm ?_
            rfl
        · show szS (S ++ [_]) ≤ 2048
          have e : ∀ a : Gm, szS (S ++ [a]) = szS S + szP a.L := fun a => by simp [szS]
          rw [e, addG_L]
          have : szP ([] ++ [nPc p D buf]) = D.length := by simp [szP, nPc]
          rw [this]
          have : ¬ 2048 < szS S + D.length := fun e => hs (.inr e)
          omega
      · exact h
/-- Put -/
theorem put_any {ρ : Nat → Nat × Nat} {w : World} {b : Nat} {G : List (Nat × Gm)} {Q : Nat → Prop} (h : FrAt ρ w b G) (hok : OkS (absG G)) (p : Pk) (ov : Value) (ho : CB (fun g => ρ g = (0, 9)) w ov p.opts) (hol : p.opts.length ≤ 140737488355328) (bv : Value) (D : List Int) (hd : CB Q w bv D) (hdl : D.length ≤ 140737488355328) (hp0 : -9223372036854775808 ≤ p.off) (hp1 : p.off ≤ 9223372036854775807) (buf now : Int) :
    Calls Try.prog 17 #[.pointer (some ⟨b, 0, none⟩), .agg (p.cells ov).toArray, bv, .int .i64 buf, .int .i64 now] w fun e w' => ∃ v, e = .returned v ∧ ∃ (ρ' : Nat → Nat × Nat) (G' : List (Nat × Gm)), FrAt ρ' w' b G' ∧ absG G' = (putS p D buf now (absG G)).2.2 ∧ PutOut w w' ρ' (putS p D buf now (absG G)).1 (putS p D buf now (absG G)).2.1 v ∧ (∀ g, g < w.heap.size → ρ' g = ρ g) ∧ But (fun g => ρ g ≠ (0, 9) ∧ g < w.heap.size) w w' := by
  by_cases hf : frg p = true
  case neg =>
    have hf : frg p = false := by simpa using hf
    have E : putS p D buf now (absG G) = (some (p, D, [buf]), [], absG G) := by unfold putS; rw [if_pos hf]
    refine (put_plain h p ov ho hol bv D hd hdl buf now hf).mono ?_
    rintro _ w' ⟨v, rfl, h1, h2, h3⟩
    exact ⟨v, rfl, _, G, h1, by rw [E], by rw [E]; exact h2, fun g hg => cutR_lt hg, But.of_below h3⟩
  by_cases hm : myb p D.length = true
  case neg =>
    have hm : myb p D.length = false := by simpa using hm
    have E : putS p D buf now (absG G) = (none, [buf], absG G) := by unfold putS; rw [if_neg (by rw [hf]; decide), if_pos hm]
    refine (put_bad h p ov bv D hd hdl hp0 hp1 buf now hf hm).mono ?_
    rintro _ w' ⟨v, rfl, h1, h2, h3⟩
    exact ⟨v, rfl, _, G, h1, by rw [E], by rw [E]; exact h2, fun g hg => cutR_lt hg, But.of_below h3⟩
  exact put_piece h p ov ho hol bv D hd hdl hp0 hp1 buf now hf hm hok.hL
/-- none yet -/
theorem FrAt.new {w : World} {b : Nat} (hc : w.cell? ⟨b, 0, none⟩ = some (.slice none 0 0)) (hf : w.frozen? ⟨b, 0, none⟩ = false) : FrAt (fun g => if g = b then (b, 0) else (0, 9)) w b [] :=
  ⟨⟨_, hc, RowF.nil _ _ _ _⟩, hf, if_pos rfl, fun p hp => (by cases hp), List.nodup_nil, List.nodup_nil, by simp⟩

section
variable {ops : Array Oper} {Q : Exit → Act → World → Prop} {md : Region.Mode} {S : World → Prop} {D : Nat → Bool} {fuel : Nat} {listed : Array Bool} {a : Act} {w w' : World}
theorem allJ {rs : List Nat} (hr : Region.ready md ops listed = rs) (hne : rs ≠ []) (h : ∀ i ∈ rs, wpOp Try.prog ops Q i (fun a' w' => (D i = true → S w') ∧ wpAnyJ D md ops Q S fuel (listed.setIfInBounds i true) a' w') a w) : wpAnyJ D md ops Q S (fuel + 1) listed a w := by
  refine ⟨fun h0 => absurd (hr.symm.trans h0) hne, fun k hk => ?_⟩
  rw [hr] at hk
  exact h k hk
theorem opJ_call {K : Act → World → Prop} {oi : Oper} (i : Nat) (d : Tmp) (hi : ops[i]? = some oi) (hd : oi.dst = some d) (hw : Region.wanted oi (yielded ops a.tmps) = true) (F : FuncId) (vals : Array Value)
    (hrun : (execOp a.eval oi).run Try.prog w = .ok (.enter F vals) w) (R : Value → World → Prop) (hC : Calls Try.prog F vals w fun e w2 => ∃ v, e = .returned v ∧ R v w2) (h : ∀ v w2, R v w2 → K (a.put (some d) v) w2) : wpOp Try.prog ops Q i K a w := by
  unfold Go.wpOp
  simp only [hi, hw, if_true, Oper.wp, hrun, Oper.upon, hd]
  refine .inl (hC.mono ?_)
  rintro _ w2 ⟨v, rfl, hR⟩
  exact h v w2 hR
theorem opJ_val {K : Act → World → Prop} {oi : Oper} (i : Nat) (d : Tmp) (v : Value) (hi : ops[i]? = some oi) (hd : oi.dst = some d) (hw : Region.wanted oi (yielded ops a.tmps) = true) (hrun : (execOp a.eval oi).run Try.prog w = .ok (.value v) w') (h : K (a.put (some d) v) w') : wpOp Try.prog ops Q i K a w := by
  unfold Go.wpOp
  simp only [hi, hw, if_true, Oper.wp, hrun, Oper.upon, hd]
  exact .inl h
end
theorem exec_allocWh {o : Oper} {w : World} {ev : Operand → Value} (ho : o.op = .alloc 49) : (execOp ev o).run Try.prog w = .ok (.value (.pointer (some ⟨w.heap.size, 0, none⟩))) (w.alloc (.cells zWh.toArray 49)) := by
  unfold execOp
  rw [ho]
  kernel_rfl
/-- behind 'w, is, gone := f.Put(..)' -/
structure PutAft (w w' : World) (ρ ρ' : Nat → Nat × Nat) (b : Nat) (G' : List (Nat × Gm)) (r : Option (Pk × List Int × List Int) × List Int × List Gm) (s6 : Nat) (gv : Value) : Prop where
  fr : FrAt ρ' w' b G'
  ab : absG G' = r.2.2
  old : ∀ g, g < w.heap.size → ρ' g = ρ g
  but : But (fun g => ρ g ≠ (0, 9) ∧ g < w.heap.size) w w'
  hs6 : w.heap.size ≤ s6 ∧ ρ' s6 = (0, 9)
  f6 : ∀ y, w'.frozen? ⟨s6, y, none⟩ = false
  x : ∃ (hv dv bv : Value) (τ : Nat → Nat), τ s6 = 0 ∧ CellsAt w' s6 0 (whC (outP r.1) hv dv bv) ∧ RowB (fun g => τ g = 1 ∧ w.heap.size ≤ g ∧ ρ' g = (0, 9)) w' dv (outD r.1) ∧ RowN (fun g => τ g = 2 ∧ w.heap.size ≤ g ∧ ρ' g = (0, 9)) w' bv (outB r.1) ∧ RowN (fun g => τ g = 3 ∧ w.heap.size ≤ g ∧ ρ' g = (0, 9)) w' gv r.2.1 ∧ CB (fun g => g ≠ s6) w' hv (outP r.1).opts
/-- what Put answers, with the slices that it hands out -/
structure PutGot (w w' : World) (ρ ρ' : Nat → Nat × Nat) (b : Nat) (G' : List (Nat × Gm)) (r : Option (Pk × List Int × List Int) × List Int × List Gm) (hv dv bv gv : Value) : Prop where
  fr : FrAt ρ' w' b G'
  ab : absG G' = r.2.2
  old : ∀ g, g < w.heap.size → ρ' g = ρ g
  but : But (fun g => ρ g ≠ (0, 9) ∧ g < w.heap.size) w w'
  x : ∃ τ : Nat → Nat, RowB (fun g => τ g = 1 ∧ w.heap.size ≤ g ∧ ρ' g = (0, 9)) w' dv (outD r.1) ∧ RowN (fun g => τ g = 2 ∧ w.heap.size ≤ g ∧ ρ' g = (0, 9)) w' bv (outB r.1) ∧ RowN (fun g => τ g = 3 ∧ w.heap.size ≤ g ∧ ρ' g = (0, 9)) w' gv r.2.1 ∧ CB (fun g => ρ' g ≠ (0, 9) ∨ w.heap.size ≤ g) w' hv (outP r.1).opts
theorem PutGot.one {w w' : World} {ρ ρ' : Nat → Nat × Nat} {b : Nat} {G' : List (Nat × Gm)} {r : Option (Pk × List Int × List Int) × List Int × List Gm} {hv dv bv gv : Value} (h : PutGot w w' ρ ρ' b G' r hv dv bv gv) : ∀ u ∈ whC (outP r.1) hv dv bv, u.oneCell' = true := by
  obtain ⟨τ, h1, h2, h3, h4⟩ := h.x
  obtain ⟨_, _, e⟩ := h2.shape
  exact whC_one _ _ _ _ h4.one h1.one (by rw [e]; rfl)
theorem put_got {ρ : Nat → Nat × Nat} {w : World} {b : Nat} {G : List (Nat × Gm)} {Q : Nat → Prop} (h : FrAt ρ w b G) (hok : OkS (absG G)) (p : Pk) (ov : Value) (ho : CB (fun g => ρ g = (0, 9)) w ov p.opts) (hol : p.opts.length ≤ 140737488355328) (bv : Value) (D : List Int) (hd : CB Q w bv D) (hdl : D.length ≤ 140737488355328) (hp0 : -9223372036854775808 ≤ p.off) (hp1 : p.off ≤ 9223372036854775807) (buf now : Int) (r : Option (Pk × List Int × List Int) × List Int × List Gm) (hr : putS p D buf now (absG G) = r) :
    Calls Try.prog 17 #[.pointer (some ⟨b, 0, none⟩), .agg (p.cells ov).toArray, bv, .int .i64 buf, .int .i64 now] w fun e w' => ∃ v, e = .returned v ∧ ∃ (ρ' : Nat → Nat × Nat) (G' : List (Nat × Gm)) (hv dv bv : Value) (ga : Option Addr) (gc : Nat), v = .tuple #[.agg (whC (outP r.1) hv dv bv).toArray, .bool r.1.isSome, .slice ga r.2.1.length gc] ∧ PutGot w w' ρ ρ' b G' r hv dv bv (.slice ga r.2.1.length gc) := by
  subst hr
  refine (put_any h hok p ov ho hol bv D hd hdl hp0 hp1 buf now).mono ?_
  rintro _ w' ⟨v, rfl, ρ', G', h1, h2, ⟨hv, dv, bv', gv, τ, rfl, k1, k2, k3, k4⟩, h4, h5⟩
  obtain ⟨ga, gc, rfl⟩ := k3.shape
  exact ⟨_, rfl, ρ', G', hv, dv, bv', ga, gc, rfl, h1, h2, h4, h5, τ, k1, k2, k3, k4⟩
def cutT (τ : Nat → Nat) (n : Nat) : Nat → Nat := fun g => if g < n then τ g else 0
section
variable {w w' : World} {ρ ρ' : Nat → Nat × Nat} {b : Nat} {G' : List (Nat × Gm)} {r : Option (Pk × List Int × List Int) × List Int × List Gm} {hv dv bv gv : Value}
set_option maxHeartbeats 1000000 in
/-- the call first -/
theorem PutGot.aft (h : PutGot w w' ρ ρ' b G' r hv dv bv gv) : ∃ w1 w2 ρ2, w1 = w'.alloc (.cells zWh.toArray 49) ∧ CellsAt w1 w'.heap.size 0 zWh ∧ (∀ y, w1.frozen? ⟨w'.heap.size, y, none⟩ = false) ∧ w2 = w1.setCells w'.heap.size 0 (whC (outP r.1) hv dv bv) ∧ PutAft w w2 ρ ρ2 b G' r w'.heap.size gv := by
  obtain ⟨w1, hw1⟩ : ∃ w1, w1 = w'.alloc (.cells zWh.toArray 49) := ⟨_, rfl⟩
  have b1 : Below w'.heap.size w' w1 := by rw [hw1]; exact later_alloc _ _
  have c1 : CellsAt w1 w'.heap.size 0 zWh := by rw [hw1]; exact CellsAt.new w' _ _
  have f1 : ∀ y, w1.frozen? ⟨w'.heap.size, y, none⟩ = false := by rw [hw1]; exact fun y => frozen_new w' _ _ _
  obtain ⟨w2, hw2⟩ : ∃ w2, w2 = w1.setCells w'.heap.size 0 (whC (outP r.1) hv dv bv) := ⟨_, rfl⟩
  have b2 : But (Only w'.heap.size) w1 w2 := by rw [hw2]; exact But.cells w'.heap.size _ 0 w1
  obtain ⟨τ, k1, k2, k3, k4⟩ := h.x
  have z := h.but.size
  have no : ∀ g, g < w'.heap.size → ¬ Only w'.heap.size g := fun g hg e => by have e : g = w'.heap.size := e; omega
  refine ⟨w1, w2, cutR ρ' w'.heap.size, hw1, c1, f1, hw2, (h.fr.cut.later b1).but b2 (fun g hg e => by have e : g = w'.heap.size := e; rw [e]; exact cutR_ge (Nat.le_refl _)), h.ab, fun g hg => by rw [cutR_lt (by omega)]; exact h.old g hg, (h.but.trans' (below_but b1) (fun _ _ e => e.elim)).trans' b2 (fun g hg e => by have e : g = w'.heap.size := e; omega), ⟨z, cutR_ge (Nat.le_refl _)⟩, fun y => by rw [hw2, World.frozen?_setCells]; exact f1 y, hv, dv, bv, cutT τ w'.heap.size, if_neg (Nat.lt_irrefl _), by rw [hw2]; exact c1.stored rfl, ?_, ?_, ?_, ?_⟩
  · exact (((k1.own (O' := fun g => (τ g = 1 ∧ w.heap.size ≤ g ∧ ρ' g = (0, 9)) ∧ g < w'.heap.size) (fun g hg e => ⟨e, hg⟩)).later b1).but b2 (fun g e => no g e.2)).own (fun g _ e => ⟨(if_pos e.2).trans e.1.1, e.1.2.1, by rw [cutR_lt e.2]; exact e.1.2.2⟩)
  · exact (((k2.own (O' := fun g => (τ g = 2 ∧ w.heap.size ≤ g ∧ ρ' g = (0, 9)) ∧ g < w'.heap.size) (fun g hg e => ⟨e, hg⟩)).later b1).but b2 (fun g e => no g e.2)).own (fun g _ e => ⟨(if_pos e.2).trans e.1.1, e.1.2.1, by rw [cutR_lt e.2]; exact e.1.2.2⟩)
  · exact (((k3.own (O' := fun g => (τ g = 3 ∧ w.heap.size ≤ g ∧ ρ' g = (0, 9)) ∧ g < w'.heap.size) (fun g hg e => ⟨e, hg⟩)).later b1).but b2 (fun g e => no g e.2)).own (fun g _ e => ⟨(if_pos e.2).trans e.1.1, e.1.2.1, by rw [cutR_lt e.2]; exact e.1.2.2⟩)
  · exact (((k4.own (P' := fun g => g < w'.heap.size) (fun g hg _ => hg)).later b1).but b2 no).own (fun g _ e => by omega)
set_option maxHeartbeats 1000000 in
/-- the block first -/
theorem PutGot.aft2 {w1 : World} (hw1 : w1 = w.alloc (.cells zWh.toArray 49)) (h : PutGot w1 w' (cutR ρ w.heap.size) ρ' b G' r hv dv bv gv) : CellsAt w' w.heap.size 0 zWh ∧ (∀ y, w'.frozen? ⟨w.heap.size, y, none⟩ = false) ∧ ∃ w2, w2 = w'.setCells w.heap.size 0 (whC (outP r.1) hv dv bv) ∧ PutAft w w2 ρ ρ' b G' r w.heap.size gv := by
  have b1 : Below w.heap.size w w1 := by rw [hw1]; exact later_alloc _ _
  have c1 : CellsAt w1 w.heap.size 0 zWh := by rw [hw1]; exact CellsAt.new w _ _
  have f1 : ∀ y, w1.frozen? ⟨w.heap.size, y, none⟩ = false := by rw [hw1]; exact fun y => frozen_new w _ _ _
  have z1 : w1.heap.size = w.heap.size + 1 := by rw [hw1, World.size_alloc]
  have rs : ρ' w.heap.size = (0, 9) := by rw [h.old _ (by omega)]; exact cutR_ge (Nat.le_refl _)
  have nK : ¬ (cutR ρ w.heap.size w.heap.size ≠ (0, 9) ∧ w.heap.size < w1.heap.size) := fun e => e.1 (cutR_ge (Nat.le_refl _))
  have c2 := c1.but (by omega) h.but nK
  have f2 : ∀ y, w'.frozen? ⟨w.heap.size, y, none⟩ = false := fun y => (h.but.frozen (p := ⟨w.heap.size, y, none⟩) (by show w.heap.size < _; omega) nK).trans (f1 y)
  obtain ⟨w2, hw2⟩ : ∃ w2, w2 = w'.setCells w.heap.size 0 (whC (outP r.1) hv dv bv) := ⟨_, rfl⟩
  have b2 : But (Only w.heap.size) w' w2 := by rw [hw2]; exact But.cells w.heap.size _ 0 w'
  obtain ⟨τ, k1, k2, k3, k4⟩ := h.x
  refine ⟨c2, f2, w2, hw2, h.fr.but b2 (fun g hg e => by have e : g = w.heap.size := e; rw [e]; exact rs), h.ab, fun g hg => by rw [h.old g (by omega)]; exact cutR_lt hg, ((But.of_below b1).trans' h.but (fun g hg e => ⟨by have := e.1; rw [cutR_lt hg] at this; exact this, hg⟩)).trans' b2 (fun g hg e => by have e : g = w.heap.size := e; omega), ⟨Nat.le_refl _, rs⟩, fun y => by rw [hw2, World.frozen?_setCells]; exact f2 y, hv, dv, bv, fun g => if g = w.heap.size then 0 else τ g, if_pos rfl, by rw [hw2]; exact c2.stored rfl, ?_, ?_, ?_, ?_⟩
  · exact (k1.but b2 (fun g e e2 => by have e2 : g = w.heap.size := e2; have := e.2.1; omega)).own (fun g _ e => ⟨(if_neg (by have := e.2.1; omega)).trans e.1, by have := e.2.1; omega, e.2.2⟩)
  · exact (k2.but b2 (fun g e e2 => by have e2 : g = w.heap.size := e2; have := e.2.1; omega)).own (fun g _ e => ⟨(if_neg (by have := e.2.1; omega)).trans e.1, by have := e.2.1; omega, e.2.2⟩)
  · exact (k3.but b2 (fun g e e2 => by have e2 : g = w.heap.size := e2; have := e.2.1; omega)).own (fun g _ e => ⟨(if_neg (by have := e.2.1; omega)).trans e.1, by have := e.2.1; omega, e.2.2⟩)
  · have kk : ∀ g, (ρ' g ≠ (0, 9) ∨ w1.heap.size ≤ g) → g ≠ w.heap.size := fun g e e2 => by
      rcases e with e | e
      · rw [e2] at e; exact e rs
      · omega
    exact (k4.but b2 (fun g e e2 => kk g e e2)).own (fun g _ e => kk g e)
end

set_option maxRecDepth 100000 in
set_option maxHeartbeats 4000000 in
theorem Same_true (p : Pk) (ov uv : Value) (w : World) (ho : IsB w.heap.size w ov p.opts) (hu : IsB w.heap.size w uv p.opts) :
    Calls Try.prog 12 #[.agg (p.cells ov).toArray, .agg (p.cells uv).toArray] w fun e w' => e = .returned (.bool true) ∧ Below w.heap.size w w' := by
  obtain ⟨s, hs⟩ : ∃ s, s = w.heap.size := ⟨_, rfl⟩
  obtain ⟨X, hX⟩ : ∃ X, X = p.cells ov := ⟨_, rfl⟩
  obtain ⟨Y, hY⟩ : ∃ Y, Y = p.cells uv := ⟨_, rfl⟩
  have lX : X.length = 16 := by rw [hX]; rfl
  have lY : Y.length = 16 := by rw [hY]; rfl
  rw [← hX, ← hY]
  obtain ⟨w1, hw1⟩ : ∃ w1, w1 = (w.alloc (.cells X.toArray 26)).alloc (.cells Y.toArray 26) := ⟨_, rfl⟩
  have b1 : Below w.heap.size w w1 := by rw [hw1]; exact ((Below.refl _ w).alloc (Nat.le_refl _) _).alloc (by simp) _
  have cx : CellsAt w1 s 0 (p.cells ov) := by
    rw [hw1, hs, ← hX]
    exact (CellsAt.new w X 26).but (by simp) ((But.refl (fun _ => False) _).alloc _) id
  have cy : CellsAt w1 (s + 1) 0 (p.cells uv) := by
    have := CellsAt.new (w.alloc (.cells X.toArray 26)) Y 26
    rw [World.size_alloc, ← hs] at this
    rw [hw1, ← hY]; exact this
  have so := conv_str (ho.later b1)
  have su := conv_str (hu.later b1)
  have x0 := cx 0 _ rfl
  have y0 := cy 0 _ rfl
  have x1 := cx 1 _ rfl
  have y1 := cy 1 _ rfl
  have x2 := cx 2 _ rfl
  have y2 := cy 2 _ rfl
  have x3 := cx 3 _ rfl
  have y3 := cy 3 _ rfl
  have x4 := cx 4 _ rfl
  have y4 := cy 4 _ rfl
  have x5 := cx 5 _ rfl
  have y5 := cy 5 _ rfl
  have x6 := cx 6 _ rfl
  have y6 := cy 6 _ rfl
  have x7 := cx 7 _ rfl
  have y7 := cy 7 _ rfl
  have x8 := cx 8 _ rfl
  have y8 := cy 8 _ rfl
  have x9 := cx 9 _ rfl
  have y9 := cy 9 _ rfl
  have x10 := cx 10 _ rfl
  have y10 := cy 10 _ rfl
  have x11 := cx 11 _ rfl
  have y11 := cy 11 _ rfl
  have x12 := cx 12 _ rfl
  have y12 := cy 12 _ rfl
  have x13 := cx 13 _ rfl
  have y13 := cy 13 _ rfl
  have x14 := cx 14 _ rfl
  have y14 := cy 14 _ rfl
  have x15 := cx 15 _ rfl
  have y15 := cy 15 _ rfl
  simp only [Nat.zero_add] at x0 y0 x1 y1 x2 y2 x3 y3 x4 y4 x5 y5 x6 y6 x7 y7 x8 y8 x9 y9 x10 y10 x11 y11 x12 y12 x13 y13 x14 y14 x15 y15
  have EI := eq_ip
  have m1 : eqI ⟨p.src.a, p.src.b, p.src.c, p.src.d⟩ ⟨p.src.a, p.src.b, p.src.c, p.src.d⟩ = true := eqI_self _
  have m2 : eqI ⟨p.dst.a, p.dst.b, p.dst.c, p.dst.d⟩ ⟨p.dst.a, p.dst.b, p.dst.c, p.dst.d⟩ = true := eqI_self _
  have HB : Hid (Below s w w1) := by rw [hs]; exact b1
  have HB2 := hide b1
  obtain ⟨SO, hSO⟩ : ∃ SO, SO = strB p.opts := ⟨_, rfl⟩
  rw [← hSO] at so su
  clear hX hY cx cy b1 ho hu hSO
  go_enter Try.func12, Try.ntmps12
  have hw1' := hw1.symm
  have hs' := hs.symm
  clear hw1 hs
  go_wp2
  go_ret
  exact ⟨rfl, by first | exact HB2.out | exact HB.out⟩
theorem map5 {ev : Operand → Value} {x y z u t : Operand} {a b c d e : Value} (h : ev x = a) (h2 : ev y = b) (h3 : ev z = c) (h4 : ev u = d) (h5 : ev t = e) : (#[x, y, z, u, t] : Array Operand).map ev = #[a, b, c, d, e] := by simp [h, h2, h3, h4, h5]
/-- 'make([]byte, n)' -/
theorem mkB (w : World) (n : Nat) (hn : n ≤ 1000000) : ∃ w', (Instr.makeSlice 24 (.int .i64 (n : Int)) (.int .i64 (n : Int))).run Try.prog w = .ok (.slice (some ⟨w.heap.size, 0, none⟩) n n) w' ∧ Gro w.heap.size w' (.slice (some ⟨w.heap.size, 0, none⟩) n n) (List.replicate n 0) ∧ Below w.heap.size w w' ∧ w.heap.size < w'.heap.size := by
  obtain ⟨i0, hi, hz0, hz1, hz2⟩ := info_parts info_u8
  obtain ⟨w', hr, ho, hg⟩ := run_makeSlice_full (P := Try.prog) w w.heap.size 24 5 i0 (.int .u8 0) 1 Try.underlying24 hi hz0 hz1 .i64 .i64 n (by omega) (by rw [hz2]; omega) (by unfold maxLen; omega) (Nat.le_refl _)
  have b : Below w.heap.size w w' := (Below.refl _ w).grown hg (Nat.le_refl _) (fun r e => by cases e)
  have e : (madeCells (Value.int IntKind.u8 0).cells (n * 1)).toList = (List.replicate n (0 : Int)).map (Value.int .u8) := by
    rw [Nat.mul_one, show (Value.int IntKind.u8 0).cells = #[.int .u8 0] from rfl, toList_madeCells_one, List.map_replicate]
  rw [e] at ho
  have ho2 : Gro w.heap.size w' (.slice (some ⟨w.heap.size, 0, none⟩) n n) (List.replicate n 0) := by
    unfold Gro
    rw [List.length_replicate]
    exact ho
  exact ⟨w', hr, ho2, b, by
    obtain ⟨_, ⟨e, _⟩ | ⟨g, cap, cur, e, hg, hh, _⟩⟩ := ho2
    · cases e
    · simp only [Value.slice.injEq, Option.some.injEq, Addr.mk.injEq] at e
      rw [e.1.1]
      exact (Array.getElem?_eq_some_iff.1 hh).1⟩
theorem exec_mkB {o : Oper} {w w' : World} {ev : Operand → Value} (x y : Operand) (n : Nat) (v : Value) (ho : o.op = .makeSlice 24 x y) (hx : ev x = .int .i64 (n : Int)) (hy : ev y = .int .i64 (n : Int)) (h : (Instr.makeSlice 24 (.int .i64 (n : Int)) (.int .i64 (n : Int))).run Try.prog w = .ok v w') : (execOp ev o).run Try.prog w = .ok (.value v) w' := by
  unfold execOp
  simp [ho, hx, hy, h]
theorem exec_bldP5 {o : Oper} {w : World} {ev : Operand → Value} (x y z u t : Operand) (s d : I4) (a b c : Int) (ho : o.op = .build 26 #[(0, x), (1, y), (2, z), (3, u), (4, t)]) (hx : ev x = .agg #[.int .u8 s.a, .int .u8 s.b, .int .u8 s.c, .int .u8 s.d]) (hy : ev y = .agg #[.int .u8 d.a, .int .u8 d.b, .int .u8 d.c, .int .u8 d.d]) (hz : ev z = .int .i64 a) (hu : ev u = .int .i64 b) (ht : ev t = .int .i64 c) :
    (execOp ev o).run Try.prog w = .ok (.value (.agg (Pk.cells ⟨s, d, a, b, c, 0, false, false, 0, []⟩ (.slice none 0 0)).toArray)) w := by
  unfold execOp
  rw [ho]
  simp only [List.map_toArray, List.map_cons, List.map_nil, hx, hy, hz, hu, ht]
  kernel_rfl
theorem exec_bldI4 {o : Oper} {w : World} {ev : Operand → Value} (x y z u : Operand) (a b c d : Int) (ho : o.op = .build 23 #[(0, x), (1, y), (2, z), (3, u)]) (hx : ev x = .int .u8 a) (hy : ev y = .int .u8 b) (hz : ev z = .int .u8 c) (hu : ev u = .int .u8 d) : (execOp ev o).run Try.prog w = .ok (.value (.agg #[.int .u8 a, .int .u8 b, .int .u8 c, .int .u8 d])) w := by
  unfold execOp
  rw [ho]
  simp only [List.map_toArray, List.map_cons, List.map_nil, hx, hy, hz, hu]
  kernel_rfl
theorem exec_allocPk {o : Oper} {w : World} {ev : Operand → Value} (ho : o.op = .alloc 26) : (execOp ev o).run Try.prog w = .ok (.value (.pointer (some ⟨w.heap.size, 0, none⟩))) (w.alloc (.cells (zF.cells (.slice none 0 0)).toArray 26)) := by
  unfold execOp
  rw [ho]
  kernel_rfl
theorem exec_ixPi {o : Oper} {w : World} {ev : Operand → Value} (x y : Operand) (g n c k : Nat) (ki : Int) (ho : o.op = .indexAddr 28 x y) (hx : ev x = .slice (some ⟨g, 0, none⟩) n c) (hy : ev y = .int .i64 ki) (hki : ki = (k : Int)) (hk : k < n) : (execOp ev o).run Try.prog w = .ok (.value (.pointer (some ⟨g, k * 17, none⟩))) w := by
  subst hki
  have h1 : (k : Int) < n := by omega
  unfold execOp
  simp [ho, hx, hy, go_sem, h1, Addr.add_lit]
/-- the example -/
def exP : Pk := ⟨⟨10, 0, 0, 1⟩, ⟨10, 0, 0, 2⟩, 17, 9, 5, 0, false, false, 0, []⟩
def exB : List Int := (List.replicate 100 0).set 99 7
def ex0 : Pk := { exP with more := true }
def ex1 : Pk := { exP with more := true, off := 48 }
def ex2 : Pk := { exP with off := 96 }
theorem ex_cut : cutS exP exB 68 = [(ex0, exB.take 48), (ex1, (exB.drop 48).take 48), (ex2, exB.drop 96)] := by
  unfold cutS
  rw [show exP.opts = [] from rfl, cpO_nil]
  decide +kernel
theorem ex_spl : spE exP 100 68 = 0 ∧ spL exP exB 68 = [(ex0, exB.take 48), (ex1, (exB.drop 48).take 48), (ex2, exB.drop 96)] := by
  have h : spE exP exB.length 68 = 0 := by decide +kernel
  refine ⟨by decide +kernel, ?_⟩
  unfold spL
  rw [if_pos h]
  exact ex_cut
def exr1 := putS ex2 (exB.drop 96) 3 0 []
def exr2 := putS ex0 (exB.take 48) 1 0 exr1.2.2
def exr3 := putS ex1 ((exB.drop 48).take 48) 2 0 exr2.2.2
def exr4 := putS ex0 (exB.take 48) 1 0 exr3.2.2
def exr5 := putS ex0 (exB.take 48) 4 0 exr4.2.2
theorem exr1_ok : exr1.1 = none ∧ exr1.2.1 = [] := by decide +kernel
theorem exr2_ok : exr2.1 = none ∧ exr2.2.1 = [] := by decide +kernel
theorem exr3_ok : exr3.1 = some (exP, exB, [1, 2, 3]) ∧ exr3.2.1 = [] := by decide +kernel
theorem exr4_ok : exr4.1 = none ∧ exr4.2.1 = [] := by decide +kernel
theorem exr5_ok : exr5.1 = none ∧ exr5.2.1 = [1, 4] ∧ exr5.2.2.length = 0 := by decide +kernel
end Go.Proofs.Ytgempelfamjabaa
