
/-
  The document's icmp: laid, Encode.
-/
import Derived.Test.YtlhkdjockodneaaT14
namespace Go.Proofs.Ytlhkdjockodneaa
open Go.RowKit Go.Shelf

/-- a message with a sum -/
def ldB (t c i s u : Int) (ds : List Int) (n : Int) : List Int := [t, c] ++ (put16 n ++ rsL t i s u ds)
theorem icB_ld (t c i s u : Int) (ds : List Int) : icB t c i s u ds = ldB t c i s u ds (csum ([t, c] ++ rsL t i s u ds)) := rfl
theorem ldB_sum (t c i s u : Int) (ds : List Int) : csum (ldB t c i s u ds 0) = csum ([t, c] ++ rsL t i s u ds) := by
  unfold csum ldB
  rw [wsum_append_even _ _ (by simp), wsum_append_even _ _ (by rw [put16_len]), wsum_append_even _ _ (by simp), wsum_put16 0 (by decide) (by decide)]
  simp
theorem ldB_len (t c i s u : Int) (ds : List Int) (n : Int) : (ldB t c i s u ds n).length = 8 + ds.length := by simp [ldB, rsL_len, put16]; omega
theorem ldB_bytes {t c i s u : Int} {ds : List Int} (h : mbI t c i s u = true) (hd : Bytes ds) (n : Int) : Bytes (ldB t c i s u ds n) :=
  have k := mbI_true h
  (two_bytes k.1 k.2.1).append ((put16_bytes _).append (rsL_bytes t i s u hd))
set_option maxRecDepth 100000 in
set_option maxHeartbeats 4000000 in
theorem rLaid_any (t c i s u : Int) (da : Option Addr) (dc : Nat) (ds : List Int) (n : Int) (w : World) (hm : mbI t c i s u = true) (n0 : 0 ≤ n) (n1 : n ≤ 65535) (hd : IsB w.heap.size w (.slice da ds.length dc) ds) (hl : ds.length ≤ 1016) :
    Calls Try.prog 36 #[.agg #[.int .i64 t, .int .i64 c, .int .i64 i, .int .i64 s, .int .i64 u, .slice da ds.length dc], .int .i64 n] w fun e w' => ∃ v, e = .returned v ∧ Gro w.heap.size w' v (ldB t c i s u ds n) ∧ Below w.heap.size w w' := by
  obtain ⟨dn, hdn⟩ : ∃ dn, dn = ds.length := ⟨_, rfl⟩
  rw [← hdn] at hd hl ⊢
  obtain ⟨q, w1, hq, hw1, b1, l1, hc, _⟩ := boxI w t c i s u (.slice da dn dc)
  obtain ⟨c0, c1, c2, c3, c4, c5⟩ := imL_cells hc
  obtain ⟨kt, kc, ki, ks, ku, ke, kn⟩ := mbI_true hm
  have HB := hide b1
  have HD := hide (hd.later b1)
  have HD0 := hide hd
  have HC := hide hc
  have HDN := hide hdn
  have wt : IntKind.u8.wrap t = t := by rw [IntKind.wrap_u8]; omega
  have wc : IntKind.u8.wrap c = c := by rw [IntKind.wrap_u8]; omega
  obtain ⟨w2, hw2⟩ : ∃ w2, w2 = w1.alloc (.cells #[.int .u8 t, .int .u8 c] 5) := ⟨_, rfl⟩
  have b2 : Below w1.heap.size w1 w2 := by rw [hw2]; exact later_alloc _ _
  have a2 : IsB w2.heap.size w2 (.slice (some ⟨w1.heap.size, 0, none⟩) 2 2) [t, c] := by
    rw [hw2, World.size_alloc]; exact IsB_new [t, c] (by omega)
  have P2 := hide (rPut2_any _ [t, c] n w2 a2 (by simp) n0 n1)
  obtain ⟨g, hg⟩ : ∃ g, g = w1.heap.size := ⟨_, rfl⟩
  rw [← hg] at P2
  have B2 := hide (later HB.out b2)
  have C2 := hide (hc.later l1 b2)
  have l2 : q < w2.heap.size := Nat.lt_of_lt_of_le l1 b2.size
  have D2 := hide (HD.out.later b2)
  have hw2' := hw2.symm
  have hg' := hg.symm
  have HKI := hide ki
  have HKS := hide ks
  have HKU := hide ku
  have HKE := hide ke
  have HKN := hide kn
  clear b1 hc hd hdn hm hw2 b2 a2 hg ki ks ku ke kn HD
  go_enter Try.func36, Try.ntmps36
  go_wp2_with fail
  clear hq hw1 hw2' hg' c0 c1 c2 c3 c4 c5
  refine P2.out.mono ?_
  rintro _ w3 ⟨v3, rfl, g3, b3⟩
  have B3 := hide (later B2.out b3)
  have c3' := C2.out.later l2 b3
  have l3 : q < w3.heap.size := Nat.lt_of_lt_of_le l2 b3.size
  obtain ⟨x0, x1, x2, x3, x4, x5⟩ := imL_cells c3'
  have C3 := hide c3'
  have D3 := hide (D2.out.later b3)
  have G3 := hide g3
  have S2 : Hid (w.heap.size ≤ w2.heap.size) := B2.out.size
  have S23 : Hid (w2.heap.size ≤ w3.heap.size) := b3.size
  clear P2 b3 c3' g3 D2 C2
  cases he : ech t with
  | true =>
    have HR : Hid (rsL t i s u ds = put16 i ++ (put16 s ++ ds)) := by unfold Hid rsL nmL; rw [if_pos he, List.append_assoc]
    have TT := ech_iff.1 he
    clear he
    rcases TT with rfl | rfl
    · skip
      have P3 := hide (rPut2_any v3 ([0, c] ++ put16 n) i w3 G3.out.isB (by simp [put16]) HKI.out.1 HKI.out.2)
      go_wp2_with fail
      clear x0 x1 x2 x3 x4 x5
      refine P3.out.mono ?_
      rintro _ w4 ⟨v4, rfl, g4, b4⟩
      have B4 := hide (later B3.out b4)
      have c4' := C3.out.later l3 b4
      have l4 : q < w4.heap.size := Nat.lt_of_lt_of_le l3 b4.size
      obtain ⟨x0, x1, x2, x3, x4, x5⟩ := imL_cells c4'
      have C4 := hide c4'
      have D4 := hide (D3.out.later b4)
      have P4 := hide (rPut2_any v4 ([0, c] ++ put16 n ++ put16 i) s w4 g4.isB (by simp [put16]) HKS.out.1 HKS.out.2)
      have Z4 : Hid (w.heap.size ≤ w4.heap.size) := B4.out.size
      clear P3 b4 c4' g4
      go_wp2_with fail
      clear x0 x1 x2 x3 x4 x5
      refine P4.out.mono ?_
      rintro _ w5 ⟨v5, rfl, g5, b5⟩
      have B5 := hide (later B4.out b5)
      have C5 := hide (C4.out.later l4 b5)
      have D5 := hide (D4.out.later b5)
      have G5 := hide g5
      have Z5 : Hid (w4.heap.size ≤ w5.heap.size) := b5.size
      clear P4 b5 g5
      obtain ⟨a6, k6, e6, _⟩ := G5.out.isB.shape
      subst e6
      have L6 : Hid (([0, c] ++ put16 n ++ put16 i ++ put16 s).length = 8) := rfl
      have EX : Hid (([0, c] ++ put16 n ++ put16 i ++ put16 s) ++ ds = ldB 0 c i s u ds n) := by unfold Hid ldB; rw [HR.out]; simp
      have L8 : Hid (([0, c] ++ put16 n ++ put16 i ++ put16 s).length + ds.length ≤ 140737488355328) := by unfold Hid; rw [L6.out, ← HDN.out]; omega
      obtain ⟨X6, hX6⟩ : ∃ X6, X6 = [0, c] ++ put16 n ++ put16 i ++ put16 s := ⟨_, rfl⟩
      rw [← hX6] at G5 L6 EX L8 ⊢
      rw [L6.out] at G5 ⊢
      obtain ⟨M6, hM6⟩ : ∃ M6, M6 = ldB 0 c i s u ds n := ⟨_, rfl⟩
      rw [← hM6] at EX
      have HM6 := hide hM6
      have y5 := (imL_cells C5.out).2.2.2.2.2
      clear hX6 hM6
      go_wp2_with (at_builtin; refine wpList_growB rfl (.tmp 39) (.tmp 41) rfl rfl w4.heap.size (.slice a6 8 k6) _ X6 ds rfl rfl G5.out D5.out Z5.out L8.out M6 EX.out ?_)
      intro a8 k8 w8 _ g8 b8
      have G8 : Hid (Gro w.heap.size w8 (.slice a8 M6.length k8) M6) := g8.low Z4.out
      have B8 : Hid (Below w.heap.size w w8) := B5.out.trans (b8.mono Z4.out)
      clear g8 b8
      go_wp2
      go_ret
      exact ⟨_, rfl, (by rw [← HM6.out]; exact G8.out), B8.out⟩
    · skip
      have P3 := hide (rPut2_any v3 ([8, c] ++ put16 n) i w3 G3.out.isB (by simp [put16]) HKI.out.1 HKI.out.2)
      go_wp2_with fail
      clear x0 x1 x2 x3 x4 x5
      refine P3.out.mono ?_
      rintro _ w4 ⟨v4, rfl, g4, b4⟩
      have B4 := hide (later B3.out b4)
      have c4' := C3.out.later l3 b4
      have l4 : q < w4.heap.size := Nat.lt_of_lt_of_le l3 b4.size
      obtain ⟨x0, x1, x2, x3, x4, x5⟩ := imL_cells c4'
      have C4 := hide c4'
      have D4 := hide (D3.out.later b4)
      have P4 := hide (rPut2_any v4 ([8, c] ++ put16 n ++ put16 i) s w4 g4.isB (by simp [put16]) HKS.out.1 HKS.out.2)
      have Z4 : Hid (w.heap.size ≤ w4.heap.size) := B4.out.size
      clear P3 b4 c4' g4
      go_wp2_with fail
      clear x0 x1 x2 x3 x4 x5
      refine P4.out.mono ?_
      rintro _ w5 ⟨v5, rfl, g5, b5⟩
      have B5 := hide (later B4.out b5)
      have C5 := hide (C4.out.later l4 b5)
      have D5 := hide (D4.out.later b5)
      have G5 := hide g5
      have Z5 : Hid (w4.heap.size ≤ w5.heap.size) := b5.size
      clear P4 b5 g5
      obtain ⟨a6, k6, e6, _⟩ := G5.out.isB.shape
      subst e6
      have L6 : Hid (([8, c] ++ put16 n ++ put16 i ++ put16 s).length = 8) := rfl
      have EX : Hid (([8, c] ++ put16 n ++ put16 i ++ put16 s) ++ ds = ldB 8 c i s u ds n) := by unfold Hid ldB; rw [HR.out]; simp
      have L8 : Hid (([8, c] ++ put16 n ++ put16 i ++ put16 s).length + ds.length ≤ 140737488355328) := by unfold Hid; rw [L6.out, ← HDN.out]; omega
      obtain ⟨X6, hX6⟩ : ∃ X6, X6 = [8, c] ++ put16 n ++ put16 i ++ put16 s := ⟨_, rfl⟩
      rw [← hX6] at G5 L6 EX L8 ⊢
      rw [L6.out] at G5 ⊢
      obtain ⟨M6, hM6⟩ : ∃ M6, M6 = ldB 8 c i s u ds n := ⟨_, rfl⟩
      rw [← hM6] at EX
      have HM6 := hide hM6
      have y5 := (imL_cells C5.out).2.2.2.2.2
      clear hX6 hM6
      go_wp2_with (at_builtin; refine wpList_growB rfl (.tmp 39) (.tmp 41) rfl rfl w4.heap.size (.slice a6 8 k6) _ X6 ds rfl rfl G5.out D5.out Z5.out L8.out M6 EX.out ?_)
      intro a8 k8 w8 _ g8 b8
      have G8 : Hid (Gro w.heap.size w8 (.slice a8 M6.length k8) M6) := g8.low Z4.out
      have B8 : Hid (Below w.heap.size w w8) := B5.out.trans (b8.mono Z4.out)
      clear g8 b8
      go_wp2
      go_ret
      exact ⟨_, rfl, (by rw [← HM6.out]; exact G8.out), B8.out⟩
  | false =>
    have i0 : i = 0 := (HKN.out he).1
    have HR : Hid (rsL t i s u ds = [0, 0] ++ (put16 u ++ ds)) := by unfold Hid rsL nmL; rw [if_neg (by rw [he]; decide), List.append_assoc, i0]; rfl
    have z0 : (t == 0) = false := by
      cases h : (t == 0) with
      | false => rfl
      | true => rw [ech, decide_eq_true (.inl (by simpa using h))] at he; cases he
    have z8 : (t == 8) = false := by
      cases h : (t == 8) with
      | false => rfl
      | true => rw [ech, decide_eq_true (.inr (by simpa using h))] at he; cases he
    obtain ⟨a3, k3, e3, _⟩ := G3.out.isB.shape
    subst e3
    -- two noughts
    obtain ⟨X3, hX3⟩ : ∃ X3, X3 = [t, c] ++ put16 n := ⟨_, rfl⟩
    have L3 : Hid (X3.length = 4) := by rw [hX3]; exact rfl
    rw [← hX3] at G3 ⊢
    rw [L3.out] at G3 ⊢
    obtain ⟨w4, hw4⟩ : ∃ w4, w4 = w3.alloc (.cells #[.int .u8 0, .int .u8 0] 5) := ⟨_, rfl⟩
    have b4 : Below w3.heap.size w3 w4 := by rw [hw4]; exact later_alloc _ _
    have I4' : Hid (IsB w4.heap.size w4 (.slice (some ⟨w3.heap.size, 0, none⟩) 2 2) [0, 0]) := by
      rw [hw4, World.size_alloc]; exact IsB_new [0, 0] (by omega)
    have G4 := hide (G3.out.later b4)
    have B4 := hide (later B3.out b4)
    have Z3 : Hid (w2.heap.size ≤ w4.heap.size) := Nat.le_trans S23.out b4.size
    have L4 : Hid (X3.length + ([0, 0] : List Int).length ≤ 140737488355328) := by unfold Hid; rw [L3.out]; decide
    obtain ⟨X4, hX4⟩ : ∃ X4, X4 = X3 ++ [0, 0] := ⟨_, rfl⟩
    have E4 : Hid (X3 ++ [0, 0] = X4) := hX4.symm
    have hw4' := hw4.symm
    have LX4 : Hid (X4.length = 6) := by rw [hX4, List.length_append]; exact congrArg (· + 2) L3.out
    have C4 := hide (C3.out.later l3 b4)
    have l4 : q < w4.heap.size := Nat.lt_of_lt_of_le l3 b4.size
    have D4 := hide (D3.out.later b4)
    have HX4 : Hid (X4 = [t, c] ++ put16 n ++ [0, 0]) := by rw [hX4, hX3]; exact rfl
    clear he hX3 b4 hw4 hX4 i0 HKN
    go_wp2_with (at_builtin; refine wpList_growB rfl (.tmp 32) (.tmp 33) rfl rfl w2.heap.size (.slice a3 4 k3) _ X3 [0, 0] rfl rfl G4.out I4'.out Z3.out L4.out X4 E4.out ?_)
    intro a5 k5 w5 _ g5 b5
    have B5 : Hid (Below w.heap.size w w5) := B4.out.trans (b5.mono S2.out)
    rw [LX4.out] at g5 ⊢
    have l2q : q < w2.heap.size := l2
    have c5' := C4.out.but (K := fun g => w2.heap.size ≤ g) l4 ⟨b5.os, b5.tape, b5.output, b5.size, fun k hk hn => b5.block k (by omega)⟩ (fun e => by have e : w2.heap.size ≤ q := e; omega)
    have l5 : q < w5.heap.size := Nat.lt_of_lt_of_le l4 b5.size
    obtain ⟨x0, x1, x2, x3, x4, x5⟩ := imL_cells c5'
    have C5' := hide c5'
    have P5 := hide (rPut2_any (.slice a5 6 k5) X4 u w5 (by have h := g5.isB; exact h) (by rw [LX4.out]; decide) HKU.out.1 HKU.out.2)
    have Z5 : Hid (w.heap.size ≤ w5.heap.size) := B5.out.size
    clear b5 c5' g5 G4 I4' hw4'
    go_wp2_with fail
    clear x0 x1 x2 x3 x4 x5
    refine P5.out.mono ?_
    rintro _ w6 ⟨v6, rfl, g6, b6⟩
    have B6 := hide (later B5.out b6)
    have C6 := hide (C5'.out.later l5 b6)
    have D6 := hide (HD0.out.later B6.out)
    have Z6 : Hid (w5.heap.size ≤ w6.heap.size) := b6.size
    obtain ⟨a6, k6, e6, _⟩ := g6.isB.shape
    subst e6
    have G6 := hide g6
    have L6 : Hid ((X4 ++ put16 u).length = 8) := by unfold Hid; rw [List.length_append, LX4.out]; rfl
    have EX : Hid ((X4 ++ put16 u) ++ ds = ldB t c i s u ds n) := by unfold Hid ldB; rw [HR.out, HX4.out]; simp
    have L8 : Hid ((X4 ++ put16 u).length + ds.length ≤ 140737488355328) := by unfold Hid; rw [L6.out, ← HDN.out]; omega
    obtain ⟨X6, hX6⟩ : ∃ X6, X6 = X4 ++ put16 u := ⟨_, rfl⟩
    rw [← hX6] at G6 L6 EX L8 ⊢
    rw [L6.out] at G6 ⊢
    obtain ⟨M6, hM6⟩ : ∃ M6, M6 = ldB t c i s u ds n := ⟨_, rfl⟩
    rw [← hM6] at EX
    have HM6 := hide hM6
    have y5 := (imL_cells C6.out).2.2.2.2.2
    clear hX6 hM6 g6 b6 P5
    go_wp2_with (at_builtin; refine wpList_growB rfl (.tmp 39) (.tmp 41) rfl rfl w5.heap.size (.slice a6 8 k6) _ X6 ds rfl rfl G6.out D6.out Z6.out L8.out M6 EX.out ?_)
    intro a8 k8 w8 _ g8 b8
    have G8 : Hid (Gro w.heap.size w8 (.slice a8 M6.length k8) M6) := g8.low Z5.out
    have B8 : Hid (Below w.heap.size w w8) := B6.out.trans (b8.mono Z5.out)
    clear g8 b8
    go_wp2
    go_ret
    exact ⟨_, rfl, (by rw [← HM6.out]; exact G8.out), B8.out⟩
set_option maxRecDepth 100000 in
set_option maxHeartbeats 4000000 in
theorem rEnc_any (t c i s u : Int) (da : Option Addr) (dc : Nat) (ds : List Int) (w : World) (hd : IsB w.heap.size w (.slice da ds.length dc) ds) (hB : Bytes ds) :
    Calls Try.prog 11 #[.agg #[.int .i64 t, .int .i64 c, .int .i64 i, .int .i64 s, .int .i64 u, .slice da ds.length dc]] w fun e w' => ∃ v, e = .returned (.tuple #[v, .int .i64 (ieE t c i s u ds.length)]) ∧ Gro w.heap.size w' v (ieB t c i s u ds) ∧ Below w.heap.size w w' := by
  obtain ⟨dn, hdn⟩ : ∃ dn, dn = ds.length := ⟨_, rfl⟩
  obtain ⟨q, w1, hq, hw1, b1, l1, hc, _⟩ := boxI w t c i s u (.slice da dn dc)
  obtain ⟨c0, c1, c2, c3, c4, c5⟩ := imL_cells hc
  have HB := hide b1
  have HC := hide hc
  have HDN := hide hdn
  have HBY := hide hB
  have HD0 := hide hd
  unfold ieB
  rw [← hdn] at HD0 ⊢
  obtain ⟨E, hE⟩ : ∃ E, E = ieE t c i s u dn := ⟨_, rfl⟩
  rw [← hE]
  by_cases h1 : 1016 < dn
  · have e : E = 2 := by rw [hE, ieE, if_pos h1]
    subst e
    have z : (1016 : Int) < (dn : Int) := by omega
    clear b1 hc hd hB hdn hE h1
    go_enter Try.func11, Try.ntmps11
    go_wp2
    refine bodyPost_ret (v := .tuple #[.slice none 0 0, .int .i64 2]) (by simp [results, go_sem]) rfl ?_
    exact ⟨_, rfl, Gro.nil _ _, by rw [← hq]; exact HB.out⟩
  have z : ¬ (1016 : Int) < (dn : Int) := by omega
  have M := rMay_any t c i s u da dn dc w1
  cases hm : mbI t c i s u with
  | false =>
    have e : E = 1 := by rw [hE, ieE, if_neg h1, if_pos hm]
    subst e
    rw [hm] at M
    have HM := hide M
    clear b1 hc hd hB hdn hE h1 hm M
    go_enter Try.func11, Try.ntmps11
    go_wp2_with fail
    clear hq hw1
    refine HM.out.mono ?_
    rintro _ w2 ⟨rfl, b2⟩
    have B2 := hide (later HB.out b2)
    clear b2 HM
    go_wp2
    refine bodyPost_ret (v := .tuple #[.slice none 0 0, .int .i64 1]) (by simp [results, go_sem]) rfl ?_
    exact ⟨_, rfl, Gro.nil _ _, B2.out⟩
  | true =>
    have e : E = 0 := by rw [hE, ieE, if_neg h1, if_neg (by rw [hm]; decide)]
    subst e
    rw [hm] at M
    have HM := hide M
    have HMB := hide hm
    have hl : dn ≤ 1016 := by omega
    have LD : Hid (∀ W n, Below w.heap.size w W → 0 ≤ n → n ≤ 65535 → Calls Try.prog 36 #[.agg #[.int .i64 t, .int .i64 c, .int .i64 i, .int .i64 s, .int .i64 u, .slice da dn dc], .int .i64 n] W fun e w' => ∃ v, e = .returned v ∧ (Gro W.heap.size w' v (ldB t c i s u ds n) ∧ Below W.heap.size W w')) := fun W n hW n0 n1 => by
      have h := HD0.out.later hW
      rw [HDN.out] at h ⊢
      exact rLaid_any t c i s u da dc ds n W HMB.out n0 n1 h (by rw [← HDN.out]; exact hl)
    clear b1 hc hd hB hdn hE hm M
    go_enter Try.func11, Try.ntmps11
    go_wp2_with fail
    clear hq hw1
    refine HM.out.mono ?_
    rintro _ w2 ⟨rfl, b2⟩
    have B2 := hide (later HB.out b2)
    have C2 := hide (HC.out.later l1 b2)
    have l2 : q < w2.heap.size := Nat.lt_of_lt_of_le l1 b2.size
    clear b2 HM c0 c1 c2 c3 c4 c5
    go_upto_region 6 with fail
    have bd := later_drew w2
    have S2 := C2.out.later l2 bd
    have Bd := later B2.out bd
    refine wp_region_held (S := fun W => CellsAt W q 0 (imL t c i s u (.slice da dn dc))) (by kernel_rfl) ?_
    refine takeD (i := 0) (v := .agg (imL t c i s u (.slice da dn dc)).toArray) 13 rfl rfl (by kernel_rfl) (by kernel_rfl) (by kernel_rfl) (fun _ _ _ h => h) (.inl ⟨by rfl, fun W hW => exec_loadA 24 6 aggC sizC _ rfl q 0 rfl (imL t c i s u (.slice da dn dc)) rfl (hW)⟩) (S2) ?_
    try simp only [Act.put, List.setIfInBounds_toArray, List.set_cons_zero, List.set_cons_succ]
    refine takeD (i := 1) (v := .agg (imL t c i s u (.slice da dn dc)).toArray) 14 rfl rfl (by kernel_rfl) (by kernel_rfl) (by kernel_rfl) (fun _ _ _ h => h) (.inl ⟨by rfl, fun W hW => exec_loadA 24 6 aggC sizC _ rfl q 0 rfl (imL t c i s u (.slice da dn dc)) rfl (hW)⟩) (S2) ?_
    try simp only [Act.put, List.setIfInBounds_toArray, List.set_cons_zero, List.set_cons_succ]
    refine callD 2 15 (by kernel_rfl) rfl rfl (by rfl) 36 #[.agg #[.int .i64 t, .int .i64 c, .int .i64 i, .int .i64 s, .int .i64 u, .slice da dn dc], .int .i64 0] (exec_callF _ _ _ _ rfl (map2 rfl rfl) (enters_of Try.func36 (by kernel_rfl) rfl)) _ (LD.out w2.drew 0 Bd (by decide) (by decide)) ?_
    rintro v3 w3 ⟨g3, b3⟩
    have l2d : q < w2.drew.heap.size := Nat.lt_of_lt_of_le l2 bd.size
    have S3 := S2.later l2d b3
    have B3 := later Bd b3
    refine ⟨S3, ?_⟩
    simp only [Act.put, List.setIfInBounds_toArray, List.set_cons_zero, List.set_cons_succ]
    have SM := rSum_any v3 _ w3 g3.isB (ldB_bytes HMB.out HBY.out 0) (by rw [ldB_len, ← HDN.out]; omega)
    rw [ldB_sum] at SM
    obtain ⟨cs, hcs⟩ : ∃ cs, cs = csum ([t, c] ++ rsL t i s u ds) := ⟨_, rfl⟩
    have cb := csum_bd ([t, c] ++ rsL t i s u ds)
    rw [← hcs] at SM cb
    refine callD 3 16 (by kernel_rfl) rfl rfl (by rfl) 37 #[v3] (exec_callF _ _ _ _ rfl (map1 rfl) (enters_of Try.func37 (by kernel_rfl) rfl)) (fun v W => v = .int .i64 cs ∧ W = w3) (SM.mono (by rintro _ W' ⟨rfl, h⟩; exact ⟨_, rfl, rfl, h⟩)) ?_
    rintro _ _ ⟨rfl, hw⟩
    rw [hw]
    refine ⟨S3, ?_⟩
    simp only [Act.put, List.setIfInBounds_toArray, List.set_cons_zero, List.set_cons_succ]
    refine callD 4 17 (by kernel_rfl) rfl rfl (by rfl) 36 #[.agg #[.int .i64 t, .int .i64 c, .int .i64 i, .int .i64 s, .int .i64 u, .slice da dn dc], .int .i64 cs] (exec_callF _ _ _ _ rfl (map2 rfl rfl) (enters_of Try.func36 (by kernel_rfl) rfl)) _ (LD.out w3 cs B3 cb.1 cb.2) ?_
    rintro v5 w5 ⟨g5, b5⟩
    have l3 : q < w3.heap.size := Nat.lt_of_lt_of_le l2d b3.size
    have S5 := S3.later l3 b5
    have B5 := hide (later B3 b5)
    refine ⟨S5, ?_⟩
    simp only [Act.put, List.setIfInBounds_toArray, List.set_cons_zero, List.set_cons_succ]
    refine takeD (i := 5) (v := v5) 2 rfl rfl (by kernel_rfl) (by kernel_rfl) (by kernel_rfl) (fun _ _ _ h => h) (.inl ⟨by rfl, fun W hW => exec_assign _ _ rfl rfl⟩) (S5) ?_
    try simp only [Act.put, List.setIfInBounds_toArray, List.set_cons_zero, List.set_cons_succ]
    refine takeD (i := 6) (v := .int .i64 0) 3 rfl rfl (by kernel_rfl) (by kernel_rfl) (by kernel_rfl) (fun _ _ _ h => h) (.inl ⟨by rfl, fun W hW => exec_assign _ _ rfl rfl⟩) (S5) ?_
    try simp only [Act.put, List.setIfInBounds_toArray, List.set_cons_zero, List.set_cons_succ]
    refine wpAnyH_done (by kernel_rfl) ?_ _
    have G5 : Hid (Gro w.heap.size w5 v5 (icB t c i s u ds)) := by rw [icB_ld, ← hcs]; exact g5.low B3.size
    clear S2 S3 S5 Bd B3 b3 b5 g3 g5 SM bd hw hcs cb
    go_wp2
    refine bodyPost_ret (v := .tuple #[v5, .int .i64 0]) (by simp [results, go_sem]) rfl ?_
    exact ⟨_, rfl, G5.out, B5.out⟩
end Go.Proofs.Ytlhkdjockodneaa
