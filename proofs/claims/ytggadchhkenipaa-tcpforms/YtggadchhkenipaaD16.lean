
/-
  TcpBack in numbers: what was encoded is decoded as it was.
-/
import Derived.Test.YtggadchhkenipaaD15
import Derived.Test.YtggadchhkenipaaU10
namespace Go.Proofs.Ytggadchhkenipaa
open Go.RowKit Go.Shelf

theorem rdO_opt {syn : Bool} (a b : Int) (o rest : List Int) (r : Ro) (h0 : a ≠ 0) (h1 : a ≠ 1) (hb : 2 ≤ b) (hl : b = 2 + (o.length : Int)) : rdO syn (a :: b :: (o ++ rest)) r = rdO syn rest (oneO syn (a :: b :: o) r) := by
  have hz : szT (a :: b :: (o ++ rest)) = o.length + 2 := by
    unfold szT
    rw [if_neg (show ¬ (a :: b :: (o ++ rest))[0]?.getD 0 = 0 from h0), if_neg (show ¬ (a :: b :: (o ++ rest))[0]?.getD 0 = 1 from h1), if_neg (by simp), if_neg (by
      show ¬ (b < 2 ∨ _ < b)
      simp
      omega)]
    show b.toNat = _
    omega
  rw [rdO_more (b := a :: b :: (o ++ rest)) (by simp) (show (a :: b :: (o ++ rest))[0]?.getD 0 ≠ 0 from h0) (by rw [hz]; omega), hz]
  have e1 : (a :: b :: (o ++ rest)).drop (o.length + 2) = rest := by
    show (o ++ rest).drop o.length = rest
    rw [List.drop_append_of_le_length (Nat.le_refl _), List.drop_length, List.nil_append]
  have e2 : (a :: b :: (o ++ rest)).take (o.length + 2) = a :: b :: o := by
    show a :: b :: (o ++ rest).take o.length = _
    rw [List.take_append_of_le_length (Nat.le_refl _), List.take_length]
  rw [e1, e2]
theorem rdO_one {syn : Bool} (rest : List Int) (r : Ro) : rdO syn (1 :: rest) r = rdO syn rest r := by
  have hz : szT (1 :: rest) = 1 := by
    unfold szT
    rw [if_neg (show ¬ (1 :: rest)[0]?.getD 0 = 0 from (by decide : ¬ (1 : Int) = 0)), if_pos (show (1 :: rest)[0]?.getD 0 = 1 from rfl)]
  rw [rdO_more (b := 1 :: rest) (by simp) (show (1 :: rest)[0]?.getD 0 ≠ 0 from (by decide : (1 : Int) ≠ 0)) (by rw [hz]; decide), hz]
  have e2 : (1 :: rest).take 1 = [1] := rfl
  have e3 : oneO syn [1] r = r := by
    unfold oneO
    rw [if_neg (fun e => by have := e.2.1; simp at this), if_neg (fun e => by have := e.2.1; simp at this), if_neg (fun e => by have := e.1; simp [nb] at this)]
  rw [e2, e3]
  rfl
theorem rdO_ones {syn : Bool} (r : Ro) : ∀ k : Nat, rdO syn (List.replicate k 1) r = (true, r)
  | 0 => rdO_nil _ _
  | k + 1 => by rw [List.replicate_succ, rdO_one, rdO_ones r k]
theorem w32_put (a : Int) (L : List Int) (_h : 0 ≤ a ∧ a < 4294967296) : w32 (put32 a ++ L) 0 = a := by
  show 16777216 * (a / 16777216) + 65536 * (a / 65536 % 256) + 256 * (a / 256 % 256) + a % 256 = a
  omega
theorem nb_app (A B : List Int) (k : Nat) : nb (A ++ B) (A.length + k) = nb B k := by
  unfold nb
  rw [List.getElem?_append_right (by omega), Nat.add_sub_cancel_left]
theorem w32_app (A B : List Int) (k : Nat) : w32 (A ++ B) (A.length + k) = w32 B k := by
  unfold w32
  rw [Nat.add_assoc, Nat.add_assoc, Nat.add_assoc, nb_app, nb_app, nb_app, nb_app]
theorem w32_more (A B : List Int) (k : Nat) (h : k + 4 ≤ A.length) : w32 (A ++ B) k = w32 A k := by
  have e : ∀ i, i < A.length → nb (A ++ B) i = nb A i := fun i hi => by unfold nb; rw [List.getElem?_append_left hi]
  unfold w32
  rw [e _ (by omega), e _ (by omega), e _ (by omega), e _ (by omega)]
theorem spL_back : ∀ (L : List Sp), (∀ x ∈ L, 0 ≤ x.f ∧ x.f < 4294967296 ∧ 0 ≤ x.t ∧ x.t < 4294967296) → spL (L.flatMap spB) L.length = L := by
  intro L h
  refine List.ext_getElem? (fun i => ?_)
  by_cases hi : i < L.length
  · have hx := h L[i] (List.getElem_mem hi)
    have e1 : L.flatMap spB = (L.take i).flatMap spB ++ (spB L[i] ++ (L.drop (i + 1)).flatMap spB) := by
      conv => lhs; rw [← List.take_append_drop i L, List.drop_eq_getElem_cons hi]
      rw [List.flatMap_append, List.flatMap_cons]
    have el : ((L.take i).flatMap spB).length = 8 * i := by rw [spBs_len, List.length_take]; omega
    unfold spL
    rw [List.getElem?_map, List.getElem?_range hi, List.getElem?_eq_getElem hi]
    show some _ = some _
    congr 1
    have g1 : w32 (L.flatMap spB) (8 * i) = L[i].f := by
      rw [e1]
      have := w32_app ((L.take i).flatMap spB) (spB L[i] ++ (L.drop (i + 1)).flatMap spB) 0
      rw [el] at this
      simp only [Nat.add_zero] at this
      rw [this, show spB L[i] = put32 L[i].f ++ put32 L[i].t from rfl, List.append_assoc]
      exact w32_put _ _ ⟨hx.1, hx.2.1⟩
    have g2 : w32 (L.flatMap spB) (8 * i + 4) = L[i].t := by
      rw [e1]
      have := w32_app ((L.take i).flatMap spB) (spB L[i] ++ (L.drop (i + 1)).flatMap spB) 4
      rw [el] at this
      rw [this, show spB L[i] = put32 L[i].f ++ put32 L[i].t from rfl, List.append_assoc]
      have := w32_app (put32 L[i].f) (put32 L[i].t ++ (L.drop (i + 1)).flatMap spB) 0
      rw [show (put32 L[i].f).length + 0 = 4 from rfl] at this
      rw [this]
      exact w32_put _ _ ⟨hx.2.2.1, hx.2.2.2⟩
    show (⟨w32 (L.flatMap spB) (8 * i), w32 (L.flatMap spB) (8 * i + 4)⟩ : Sp) = L[i]
    rw [g1, g2]
  · unfold spL
    rw [List.getElem?_eq_none (by simp; omega), List.getElem?_eq_none (by omega)]
/-- the options that were laid are read as they were, those that only a beginning tells only then -/
def roB (syn : Bool) (s : Sg) : Ro := ⟨if syn = true then s.mss else 0, if syn = true then s.sak else false, s.got⟩
theorem rdO_back {syn : Bool} {s : Sg} (ok : s.Ok) (hm : 0 ≤ s.mss ∧ s.mss ≤ 65535) (h3 : s.got.length ≤ 3) : rdO syn (otB s) ⟨0, false, []⟩ = (true, roB syn s) := by
  have e1 : ∀ rest, rdO syn (oM s ++ rest) ⟨0, false, []⟩ = rdO syn rest ⟨if syn = true then s.mss else 0, false, []⟩ := fun rest => by
    unfold oM
    by_cases h : s.mss = 0
    · rw [if_pos h, List.nil_append, h]
      congr 1
      split <;> rfl
    · rw [if_neg h]
      rw [show ([2, 4] ++ put16 s.mss ++ rest : List Int) = 2 :: 4 :: (put16 s.mss ++ rest) from rfl, rdO_opt 2 4 (put16 s.mss) rest _ (by decide) (by decide) (by decide) rfl]
      congr 1
      unfold oneO
      cases syn with
      | true =>
        rw [if_pos ⟨rfl, rfl, rfl⟩]
        have : w16 (2 :: 4 :: put16 s.mss) 2 = s.mss := by show 256 * (s.mss / 256 % 256) + s.mss % 256 = s.mss; omega
        rw [this]
        rfl
      | false =>
        rw [if_neg (fun e => by cases e.2.2), if_neg (fun e => by cases e.2.2), if_neg (fun e => by have := e.1; simp [nb] at this)]
        rfl
  have e2 : ∀ rest, rdO syn (oS s ++ rest) ⟨0, false, []⟩ = rdO syn rest ⟨if syn = true then s.mss else 0, if syn = true then s.sak else false, []⟩ := fun rest => by
    unfold oS
    cases hk : s.sak with
    | false =>
      rw [if_neg (by decide), e1]
      congr 1
      cases syn <;> rfl
    | true =>
      rw [if_pos rfl, List.append_assoc, e1]
      rw [show ([4, 2] ++ rest : List Int) = 4 :: 2 :: ([] ++ rest) from rfl, rdO_opt 4 2 [] rest _ (by decide) (by decide) (by decide) rfl]
      congr 1
      unfold oneO
      rw [if_neg (fun e => by have := e.1; simp [nb] at this)]
      cases syn with
      | true => rw [if_pos ⟨rfl, rfl, rfl⟩]; rfl
      | false =>
        rw [if_neg (fun e => by cases e.2.2), if_neg (fun e => by have := e.1; simp [nb] at this)]
        rfl
  have e3 : ∀ rest, rdO syn (oL s s.got.length ++ rest) ⟨0, false, []⟩ = rdO syn rest (roB syn s) := fun rest => by
    unfold oL oG
    rw [List.take_length]
    by_cases h : s.got.length = 0
    · have hg : s.got = [] := List.eq_nil_of_length_eq_zero h
      rw [if_pos h, hg, List.flatMap_nil, List.append_nil, e2]
      unfold roB
      rw [hg]
    · rw [if_neg h, List.append_assoc, List.append_assoc, e2]
      rw [show ([5, ((2 + 8 * s.got.length : Nat) : Int)] ++ (s.got.flatMap spB ++ rest) : List Int) = 5 :: ((2 + 8 * s.got.length : Nat) : Int) :: (s.got.flatMap spB ++ rest) from rfl, rdO_opt 5 _ (s.got.flatMap spB) rest _ (by decide) (by decide) (by omega) (by rw [spBs_len]; omega)]
      congr 1
      unfold oneO
      have hl : (5 :: ((2 + 8 * s.got.length : Nat) : Int) :: s.got.flatMap spB).length = 2 + 8 * s.got.length := by
        rw [List.length_cons, List.length_cons, spBs_len]; omega
      rw [if_neg (fun e => by have := e.1; simp [nb] at this), if_neg (fun e => by have := e.1; simp [nb] at this), if_pos ⟨rfl, by rw [hl]; unfold areS; rw [decide_eq_true_eq]; omega⟩, hl]
      have e5 : (2 + 8 * s.got.length - 2) / 8 = s.got.length := by omega
      rw [e5]
      have e6 : spL ((5 :: ((2 + 8 * s.got.length : Nat) : Int) :: s.got.flatMap spB).drop 2) s.got.length = s.got := spL_back s.got ok.got
      rw [e6]
      rfl
  unfold otB padT
  rw [e3]
  exact rdO_ones _ _
/-- all of it: the sum is right, the head's length -/
theorem tsB_len (x y : I4) (s : Sg) : (tsB x y s).length = 20 + (otB s).length + s.dat.length := by
  unfold tsB
  rw [List.length_append, List.length_append, tah_len, put16_len, tbh_len]
  omega
theorem tsB_sum {x y : I4} (hx : x.Ok) (hy : y.Ok) {s : Sg} (ok : s.Ok) (h3 : s.got.length ≤ 3) : csum (psB x y 6 (20 + ((otB s).length : Int) + (s.dat.length : Int)) ++ tsB x y s) = 0 := by
  obtain ⟨P, hP⟩ : ∃ P, P = psB x y 6 (20 + ((otB s).length : Int) + (s.dat.length : Int)) := ⟨_, rfl⟩
  obtain ⟨A, hA⟩ : ∃ A, A = tah s (20 + (otB s).length) := ⟨_, rfl⟩
  obtain ⟨b, hb⟩ : ∃ b, b = tbh s := ⟨_, rfl⟩
  have lP : P.length = 12 := by rw [hP]; rfl
  have lA : A.length = 16 := by rw [hA]; rfl
  have BP : Bytes P := by rw [hP]; exact psB_bytes hx hy _ _
  have BA : Bytes A := by rw [hA]; exact tah_bytes ok _
  have BB : Bytes b := by rw [hb]; exact tbh_bytes ok h3
  have hs : tsm x y s = csum (P ++ A ++ b) := by rw [hP, hA, hb]; rfl
  obtain ⟨m, hm⟩ : ∃ m, m = tsm x y s := ⟨_, rfl⟩
  have e : tsB x y s = A ++ put16 m ++ b := by rw [hA, hm, hb]; rfl
  rw [← hP, e]
  rw [← hm] at hs
  have h1 := whole_mod (P ++ A ++ b) ((BP.append BA).append BB)
  have h2 := csum_bd (P ++ A ++ b)
  rw [← hs] at h1 h2
  have w1 : wsum (P ++ A ++ b) = wsum P + wsum A + wsum b := by
    rw [wsum_append_even _ _ (by rw [List.length_append, lP, lA]), wsum_append_even _ _ (by rw [lP])]
  have w2 : wsum (P ++ (A ++ put16 m ++ b)) = wsum P + wsum A + m + wsum b := by
    rw [wsum_append_even _ _ (by rw [lP]), wsum_append_even _ _ (by rw [List.length_append, lA, put16_len]), wsum_append_even _ _ (by rw [lA]), wsum_put16 m h2.1 h2.2]
    omega
  have h3 : foldI (wsum (P ++ (A ++ put16 m ++ b))) = 65535 := by
    rw [w2]
    rw [w1] at h1
    exact fold_whole _ (by omega) (by omega)
  show 65535 - foldI _ = 0
  omega
theorem teE_zero {s : Sg} (h : teE s = 0) : s.dat.length ≤ 1024 ∧ mbS s = true := by
  unfold teE at h
  split at h
  · cases h
  · split at h
    · cases h
    · rename_i h1 h2
      refine ⟨by omega, ?_⟩
      cases e : mbS s with
      | true => rfl
      | false => exact absurd e h2
theorem tsB_bytes {x y : I4} {s : Sg} (ok : s.Ok) (h3 : s.got.length ≤ 3) : Bytes (tsB x y s) := ((tah_bytes ok _).append (put16_bytes _)).append (tbh_bytes ok h3)
/-- what a segment is told as -/
def toldS (s : Sg) : Sg := if hasB s.flg 2 = true then s else { s with mss := 0, sak := false }
theorem t_back {x y : I4} (hx : x.Ok) (hy : y.Ok) {s : Sg} (ok : s.Ok) (h : teE s = 0) : tdE x y (tsB x y s) = 0 ∧ tdS x y (tsB x y s) = toldS s := by
  obtain ⟨hd, hmb⟩ := teE_zero h
  obtain ⟨⟨p0, p1⟩, ⟨p2, p3⟩, ⟨fl0, fl1⟩, ⟨wn0, wn1⟩, hms, h3⟩ := mbS_true hmb
  obtain ⟨l35, l4⟩ := otB_len s h3
  have HS := tsB_sum hx hy ok h3
  have HL := tsB_len x y s
  have hR := rdO_back (syn := hasB s.flg 2) ok hms h3
  obtain ⟨O, hO⟩ : ∃ O, O = otB s := ⟨_, rfl⟩
  obtain ⟨n, hn⟩ : ∃ n, n = O.length := ⟨_, rfl⟩
  obtain ⟨m, hm⟩ : ∃ m, m = tsm x y s := ⟨_, rfl⟩
  have EB : tsB x y s = [s.src / 256 % 256, s.src % 256, s.dst / 256 % 256, s.dst % 256, s.seq / 16777216, s.seq / 65536 % 256, s.seq / 256 % 256, s.seq % 256, s.ack / 16777216, s.ack / 65536 % 256, s.ack / 256 % 256, s.ack % 256, (((20 + n : Nat) : Int) / 4 * 4096 + s.flg) / 256 % 256, (((20 + n : Nat) : Int) / 4 * 4096 + s.flg) % 256, s.wnd / 256 % 256, s.wnd % 256, m / 256 % 256, m % 256, 0, 0] ++ (O ++ s.dat) := by rw [hm, hn, hO]; rfl
  rw [← hO] at HS HL hR l35 l4
  rw [← hn] at HS HL l35 l4
  obtain ⟨B, hB⟩ : ∃ B, B = tsB x y s := ⟨_, rfl⟩
  rw [← hB] at HS HL EB ⊢
  have LB : ((B.length : Nat) : Int) = 20 + (n : Int) + (s.dat.length : Int) := by omega
  obtain ⟨q0, q1⟩ := ok.seq
  obtain ⟨a0, a1⟩ := ok.ack
  have W0 : w16 B 0 = s.src := by rw [EB]; show 256 * (s.src / 256 % 256) + s.src % 256 = s.src; omega
  have W2 : w16 B 2 = s.dst := by rw [EB]; show 256 * (s.dst / 256 % 256) + s.dst % 256 = s.dst; omega
  have W4 : w32 B 4 = s.seq := by rw [EB]; show 16777216 * (s.seq / 16777216) + 65536 * (s.seq / 65536 % 256) + 256 * (s.seq / 256 % 256) + s.seq % 256 = s.seq; omega
  have W8 : w32 B 8 = s.ack := by rw [EB]; show 16777216 * (s.ack / 16777216) + 65536 * (s.ack / 65536 % 256) + 256 * (s.ack / 256 % 256) + s.ack % 256 = s.ack; omega
  have W12 : w16 B 12 = ((20 + n : Nat) : Int) / 4 * 4096 + s.flg := by rw [EB]; show 256 * ((((20 + n : Nat) : Int) / 4 * 4096 + s.flg) / 256 % 256) + (((20 + n : Nat) : Int) / 4 * 4096 + s.flg) % 256 = _; omega
  have W14 : w16 B 14 = s.wnd := by rw [EB]; show 256 * (s.wnd / 256 % 256) + s.wnd % 256 = s.wnd; omega
  have F32 : w16 B 12 % 32 = s.flg := by rw [W12]; omega
  have HSI : hsI4 B = 20 + (n : Int) := by unfold hsI4; rw [W12]; omega
  have HSN : hsN B = 20 + n := by unfold hsN; rw [HSI]; omega
  have prt1 : prt s.src = true := by unfold prt; rw [decide_eq_true p0, decide_eq_true p1]; rfl
  have prt2 : prt s.dst = true := by unfold prt; rw [decide_eq_true p2, decide_eq_true p3]; rfl
  have TF : tfE x y B = 0 := by
    unfold tfE
    rw [if_neg (by omega), HSI, if_neg (by omega), LB, HS, if_neg (by decide), if_neg (by omega), W0, W2, prt1, prt2, if_neg (by decide)]
  have OB : (B.take (20 + n)).drop 20 = O := by
    rw [EB]
    generalize [s.src / 256 % 256, s.src % 256, s.dst / 256 % 256, s.dst % 256, s.seq / 16777216, s.seq / 65536 % 256, s.seq / 256 % 256, s.seq % 256, s.ack / 16777216, s.ack / 65536 % 256, s.ack / 256 % 256, s.ack % 256, (((20 + n : Nat) : Int) / 4 * 4096 + s.flg) / 256 % 256, (((20 + n : Nat) : Int) / 4 * 4096 + s.flg) % 256, s.wnd / 256 % 256, s.wnd % 256, m / 256 % 256, m % 256, 0, 0] = H at EB
    have hH : H.length = 20 := by
      have := congrArg List.length EB
      rw [List.length_append, List.length_append, HL, ← hn] at this
      omega
    rw [← hH, hn, List.take_length_add_append, List.drop_append_of_le_length (Nat.le_refl _), List.drop_length, List.nil_append, List.take_append_of_le_length (Nat.le_refl _), List.take_length]
  have DB : B.drop (20 + n) = s.dat := by
    rw [EB]
    generalize [s.src / 256 % 256, s.src % 256, s.dst / 256 % 256, s.dst % 256, s.seq / 16777216, s.seq / 65536 % 256, s.seq / 256 % 256, s.seq % 256, s.ack / 16777216, s.ack / 65536 % 256, s.ack / 256 % 256, s.ack % 256, (((20 + n : Nat) : Int) / 4 * 4096 + s.flg) / 256 % 256, (((20 + n : Nat) : Int) / 4 * 4096 + s.flg) % 256, s.wnd / 256 % 256, s.wnd % 256, m / 256 % 256, m % 256, 0, 0] = H at EB
    have hH : H.length = 20 := by
      have := congrArg List.length EB
      rw [List.length_append, List.length_append, HL, ← hn] at this
      omega
    rw [← List.append_assoc, show 20 + n = (H ++ O).length by rw [List.length_append, hH, hn], List.drop_append_of_le_length (Nat.le_refl _), List.drop_length, List.nil_append]
  have TR : tdR B = (true, roB (hasB s.flg 2) s) := by
    unfold tdR
    rw [HSN, OB, F32, hR]
  have TE : tdE x y B = 0 := by
    unfold tdE
    rw [TF, TR, if_neg (by decide), if_neg (fun e => by cases e)]
  refine ⟨TE, ?_⟩
  unfold tdS
  rw [if_pos TE, TR, HSN, DB]
  unfold tdH Sg.ro roB toldS
  rw [W0, W2, W4, W8, F32, W14]
  cases hasB s.flg 2 <;> rfl
end Go.Proofs.Ytggadchhkenipaa
