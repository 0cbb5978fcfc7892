
/-
  The document's Decode, in numbers; bytes as strings.
-/
import Derived.Test.YtjaodjlgnclkhaaA42
namespace Go.Proofs.Ytjaodjlgnclkhaa
open Go.RowKit Go.Shelf

theorem str_fold : ∀ (bs : List Int) (r : ByteArray), (bs.foldl (fun r n => r.push (UInt8.ofNat n.toNat)) r).data.toList = r.data.toList ++ bs.map (fun n => UInt8.ofNat n.toNat)
  | [], r => by simp
  | x :: bs, r => by
    rw [List.foldl_cons, str_fold bs]
    simp [ByteArray.push]
theorem str_data (bs : List Int) : (strB bs).data.toList = bs.map (fun n => UInt8.ofNat n.toNat) := by
  unfold strB
  rw [str_fold]
  rfl
theorem byte_inj {x y : Int} (x0 : 0 ≤ x) (x1 : x ≤ 255) (y0 : 0 ≤ y) (y1 : y ≤ 255) (h : UInt8.ofNat x.toNat = UInt8.ofNat y.toNat) : x = y := by
  have h1 := congrArg UInt8.toNat h
  rw [UInt8.toNat_ofNat', UInt8.toNat_ofNat'] at h1
  omega
theorem map_inj : ∀ {X Y : List Int}, Bytes X → Bytes Y → X.map (fun n => UInt8.ofNat n.toNat) = Y.map (fun n => UInt8.ofNat n.toNat) → X = Y
  | [], [], _, _, _ => rfl
  | [], _ :: _, _, _, h => by simp at h
  | _ :: _, [], _, _, h => by simp at h
  | x :: X, y :: Y, hX, hY, h => by
    simp only [List.map_cons, List.cons.injEq] at h
    have hx := hX x (by simp)
    have hy := hY y (by simp)
    rw [byte_inj hx.1 hx.2 hy.1 hy.2 h.1, map_inj (fun z hz => hX z (by simp [hz])) (fun z hz => hY z (by simp [hz])) h.2]
theorem str_inj {X Y : List Int} (hX : Bytes X) (hY : Bytes Y) (h : strB X = strB Y) : X = Y := map_inj hX hY (by rw [← str_data, ← str_data, h])
theorem str_beq {X Y : List Int} (hX : Bytes X) (hY : Bytes Y) : ((strB X).toList == (strB Y).toList) = decide (X = Y) := by
  rw [ByteArray.toList_eq, ByteArray.toList_eq, str_data, str_data, Bool.eq_iff_iff]
  simp only [beq_iff_eq, decide_eq_true_eq]
  exact ⟨map_inj hX hY, fun e => by rw [e]⟩
theorem take_nb (n : Nat) (L : List Int) (h : n ≤ L.length) : L.take n = (List.range n).map (nb L) := by
  apply List.ext_getElem
  · simp; omega
  · intro j h1 h2
    simp at h1 h2
    simp [nb, show j < L.length by omega]

theorem take28 {bs : List Int} (h : 28 ≤ bs.length) : bs.take 28 = [nb bs 0, nb bs 1, nb bs 2, nb bs 3, nb bs 4, nb bs 5, nb bs 6, nb bs 7, nb bs 8, nb bs 9, nb bs 10, nb bs 11, nb bs 12, nb bs 13, nb bs 14, nb bs 15, nb bs 16, nb bs 17, nb bs 18, nb bs 19, nb bs 20, nb bs 21, nb bs 22, nb bs 23, nb bs 24, nb bs 25, nb bs 26, nb bs 27] := by
  rw [take_nb 28 bs h]
  rfl
theorem hOk_iff {bs : List Int} (hB : Bytes bs) (b : Bool) : hOk bs b = true ↔ nb bs 0 = 0 ∧ nb bs 1 = 1 ∧ nb bs 2 = 8 ∧ nb bs 3 = 0 ∧ nb bs 4 = 6 ∧ nb bs 5 = 4 ∧ nb bs 6 = 0 ∧ nb bs 7 = if b = true then 2 else 1 := by
  have h0 := nb_bd hB 0; have h1 := nb_bd hB 1; have h2 := nb_bd hB 2; have h3 := nb_bd hB 3; have h4 := nb_bd hB 4; have h5 := nb_bd hB 5; have h6 := nb_bd hB 6; have h7 := nb_bd hB 7
  unfold hOk eqH hwV hdH w16
  simp only [H4.mk.injEq, decide_eq_true_eq, Nat.reduceAdd]
  cases b <;> simp only [Bool.false_eq_true, if_false, if_true] <;> omega
def rfA (bs : List Int) : Ar := ⟨decide (nb bs 7 = 2), macAt bs 8, ipAt bs 14, macAt bs 18, ipAt bs 24⟩
def rfB (bs : List Int) : Bool := decide (arE (rfA bs) ≠ 0) || !decide (arB (rfA bs) = bs.take 28)
theorem rf_eq {bs : List Int} (hB : Bytes bs) (h28 : 28 ≤ bs.length) : deE bs = (if rfB bs = true then 4 else 0) ∧ (rfB bs = false → deA bs = rfA bs) := by
  have e8 : (rfA bs).sm.a = nb bs 8 := rfl
  by_cases ho : nb bs 8 % 2 = 1
  · have h1 : arE (rfA bs) = 1 := by unfold arE; rw [e8, if_pos ho]
    have h2 : rfB bs = true := by unfold rfB; rw [h1]; rfl
    refine ⟨?_, fun e => by rw [h2] at e; cases e⟩
    unfold deE
    rw [if_neg (by omega), if_neg (fun e => e.2 ho), if_pos h2]
  · have h1 : arE (rfA bs) = 0 := by unfold arE; rw [e8, if_neg ho]
    have h2 : arB (rfA bs) = hd8 (rfA bs).ans ++ arT (rfA bs) := by unfold arB; rw [e8, if_neg ho]
    have h3 : arB (rfA bs) = bs.take 28 ↔ hOk bs (rfA bs).ans = true := by
      rw [h2, take28 h28, hOk_iff hB]
      simp [hd8, arT, rfA, mL, iL, macAt, ipAt]
      constructor
      · rintro ⟨a0, a1, a2, a3, a4, a5, a6, a7⟩
        exact ⟨a0.symm, a1.symm, a2.symm, a3.symm, a4.symm, a5.symm, a6.symm, a7.symm⟩
      · rintro ⟨a0, a1, a2, a3, a4, a5, a6, a7⟩
        exact ⟨a0.symm, a1.symm, a2.symm, a3.symm, a4.symm, a5.symm, a6.symm, a7.symm⟩
    have h4 : rfB bs = !hOk bs (rfA bs).ans := by
      unfold rfB
      rw [h1]
      cases hk : hOk bs (rfA bs).ans with
      | true =>
        have : decide (arB (rfA bs) = bs.take 28) = true := decide_eq_true (h3.2 hk)
        rw [this]; rfl
      | false =>
        have : decide (arB (rfA bs) = bs.take 28) = false := decide_eq_false (fun e => by rw [h3.1 e] at hk; cases hk)
        rw [this]; rfl
    have h5 : hOk bs (rfA bs).ans = true → hOk bs true = (rfA bs).ans := fun e => by
      have h6 := (hOk_iff hB _).1 e
      have e7 : (rfA bs).ans = decide (nb bs 7 = 2) := rfl
      by_cases h7 : nb bs 7 = 2
      · rw [e7, decide_eq_true h7] at e ⊢
        exact e
      · rw [e7, decide_eq_false h7]
        cases hk : hOk bs true with
        | false => rfl
        | true =>
          have := ((hOk_iff hB _).1 hk).2.2.2.2.2.2.2
          simp at this
          exact absurd this h7
    have h6 : hOk bs (hOk bs true) = hOk bs (rfA bs).ans := by
      cases hk : hOk bs (rfA bs).ans with
      | true => rw [h5 hk]; exact hk
      | false =>
        cases ht : hOk bs true with
        | true =>
          have h7 := ((hOk_iff hB _).1 ht).2.2.2.2.2.2.2
          simp at h7
          have e7 : (rfA bs).ans = true := decide_eq_true h7
          rw [e7, ht] at hk
          cases hk
        | false =>
          cases hf : hOk bs false with
          | false => rfl
          | true =>
            have h7 := ((hOk_iff hB _).1 hf).2.2.2.2.2.2.2
            simp at h7
            have e7 : (rfA bs).ans = false := decide_eq_false (by omega)
            rw [e7, hf] at hk
            cases hk
    refine ⟨?_, fun e => ?_⟩
    · unfold deE
      rw [if_neg (by omega), h6, h4]
      cases hk : hOk bs (rfA bs).ans with
      | true => rw [if_pos ⟨rfl, ho⟩, if_neg (by simp)]
      | false => rw [if_neg (fun e => by cases e.1)]; rfl
    · rw [h4] at e
      have hk : hOk bs (rfA bs).ans = true := by simpa using e
      unfold deA
      rw [h5 hk]
      rfl
end Go.Proofs.Ytjaodjlgnclkhaa
