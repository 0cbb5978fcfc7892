
/-
  The document's udp: laid, sum, Encode.
-/
import Derived.Test.YthjeaebpboilpaaU6
namespace Go.Proofs.Ythjeaebpboilpaa
open Go.RowKit Go.Shelf

def ldB (f t : Int) (b : List Int) (sm : Int) : List Int := uah f t b.length ++ put16 sm ++ b
theorem ldB_len (f t : Int) (b : List Int) (sm : Int) : (ldB f t b sm).length = 8 + b.length := by simp [ldB, uah, put16]; omega
theorem ldB_bytes (f t : Int) {b : List Int} (sm : Int) (hb : Bytes b) : Bytes (ldB f t b sm) := ((uah_bytes f t _).append (put16_bytes _)).append hb
/-- the sum stands at an even place: with 0 there it is as without it -/
theorem sum_zero (x y : I4) (f t : Int) (b : List Int) (n : Int) : csum (psB x y 17 n ++ ldB f t b 0) = csum (psB x y 17 n ++ uah f t b.length ++ b) := by
  have e : put16 0 = [0, 0] := rfl
  have h1 : (psB x y 17 n ++ uah f t b.length).length % 2 = 0 := by rw [List.length_append, psB_len, uah_len]
  have h2 : ((psB x y 17 n ++ uah f t b.length) ++ [0, 0]).length % 2 = 0 := by rw [List.length_append, List.length_append, psB_len, uah_len]; rfl
  unfold csum ldB
  rw [e, ← List.append_assoc, ← List.append_assoc, wsum_append_even _ b h2, wsum_append_even _ [0, 0] h1, wsum_append_even _ b h1, wsum_pair]
  simp
set_option maxRecDepth 100000 in
set_option maxHeartbeats 4000000 in
theorem rLaid_any (f t : Int) (f0 : 0 ≤ f) (f1 : f ≤ 65535) (t0 : 0 ≤ t) (t1 : t ≤ 65535) (sm : Int) (m0 : 0 ≤ sm) (m1 : sm ≤ 65535) (da : Option Addr) (dc : Nat) (ds : List Int) (hl : ds.length ≤ 1016) (w : World) (hd : IsB w.heap.size w (.slice da ds.length dc) ds) :
    Calls Try.prog 30 #[.int .i64 f, .int .i64 t, .slice da ds.length dc, .int .i64 sm] w fun e w' => ∃ v, e = .returned v ∧ Gro w.heap.size w' v (ldB f t ds sm) ∧ Below w.heap.size w w' := by
  obtain ⟨M, hM⟩ : ∃ M, M = ldB f t ds sm := ⟨_, rfl⟩
  have HM : Hid (M = uah f t ds.length ++ put16 sm ++ ds) := by rw [hM]; exact rfl
  rw [← hM]
  obtain ⟨n, hn⟩ : ∃ n, n = ds.length := ⟨_, rfl⟩
  have HN := hide hn
  rw [← hn] at hd hl HM ⊢
  have HD := hide hd
  have M0 := hide m0
  have M1 := hide m1
  have T0 := hide t0
  have T1 := hide t1
  have Q1 := hide (rPut2_any (.slice none 0 0) [] f w (IsB.nil _ _) (by decide) f0 f1)
  clear hM hn hd f0 f1 t0 t1 m0 m1
  go_enter Try.func30, Try.ntmps30
  go_wp2_with fail
  refine Q1.out.mono ?_
  rintro _ w2 ⟨v2, rfl, g2, b2⟩
  have B2 := hide b2
  have Q2 := hide (rPut2_any v2 _ t w2 g2.isB (by simp [put16]) T0.out T1.out)
  obtain ⟨a2, c2, rfl, _⟩ := g2.isB.shape
  clear b2 g2 Q1
  go_wp2_with fail
  refine Q2.out.mono ?_
  rintro _ w3 ⟨v3, rfl, g3, b3⟩
  have B3 := hide (later B2.out b3)
  have Q3 := hide (rPut2_any v3 _ (8 + (n : Int)) w3 g3.isB (by simp [put16]) (by omega) (by omega))
  obtain ⟨a3, c3, rfl, _⟩ := g3.isB.shape
  clear b3 g3 Q2 B2
  go_wp2_with fail
  refine Q3.out.mono ?_
  rintro _ w4 ⟨v4, rfl, g4, b4⟩
  have B4 := hide (later B3.out b4)
  have Q4 := hide (rPut2_any v4 _ sm w4 g4.isB (by simp [put16]) M0.out M1.out)
  obtain ⟨a4, c4, rfl, _⟩ := g4.isB.shape
  clear b4 g4 Q3 B3
  go_wp2_with fail
  refine Q4.out.mono ?_
  rintro _ w5 ⟨v5, rfl, g5, b5⟩
  have B5 := hide (later B4.out b5)
  obtain ⟨X, hX⟩ : ∃ X, X = uah f t n ++ put16 sm := ⟨_, rfl⟩
  have L5 : Hid (X.length = 8) := by rw [hX]; exact rfl
  have g5' : Gro w4.heap.size w5 v5 X := by rw [hX]; exact g5
  have G5 := hide g5'
  obtain ⟨a5, c5, e5, _⟩ := g5'.isB.shape
  rw [L5.out] at e5
  subst e5
  have I5 := hide (HD.out.later B5.out)
  rw [← hX] at HM
  have EX : Hid (X ++ ds = M) := HM.out.symm
  have Z5 : Hid (w4.heap.size ≤ w5.heap.size) := b5.size
  have Z4 : Hid (w.heap.size ≤ w4.heap.size) := B4.out.size
  have LL : Hid (X.length + ds.length ≤ 140737488355328) := by unfold Hid; rw [L5.out, ← HN.out]; omega
  clear b5 g5 g5' hX Q4
  go_wp2_with (at_builtin; refine wpList_growB rfl (.tmp 23) (.tmp 24) rfl rfl w4.heap.size (.slice a5 8 c5) _ X ds rfl rfl G5.out I5.out Z5.out LL.out M EX.out ?_)
  intro a9 c9 w9 _ g9 b9
  have G9 : Hid (Gro w.heap.size w9 (.slice a9 M.length c9) M) := g9.low Z4.out
  have B9 : Hid (Below w.heap.size w w9) := B5.out.trans (b9.mono Z4.out)
  clear g9 b9
  go_wp2
  go_ret
  exact ⟨_, rfl, G9.out, B9.out⟩
set_option maxRecDepth 100000 in
set_option maxHeartbeats 4000000 in
theorem rSm_any (x y : I4) (hx : x.Ok) (hy : y.Ok) (v : Value) (bs : List Int) (w : World) (hb : IsB w.heap.size w v bs) (hB : Bytes bs) (hl : bs.length ≤ 1000000) :
    Calls Try.prog 29 #[x.val, y.val, v] w fun e w' => e = .returned (.int .i64 (csum (psB x y 17 (bs.length : Int) ++ bs))) ∧ Below w.heap.size w w' := by
  obtain ⟨w1, w2, s1, s2, hs1, hw1, hs2, hw2, c1, c2, b2, l1, l2, _⟩ := twoI w x y
  obtain ⟨a, c, rfl, _⟩ := hb.shape
  have P3 := hide (rPseudo_any x y 17 (bs.length : Int) w2)
  obtain ⟨X, hX⟩ : ∃ X, X = x.vals := ⟨_, rfl⟩
  obtain ⟨Y, hY⟩ : ∃ Y, Y = y.vals := ⟨_, rfl⟩
  have LX : Hid (X.length = 4) := by rw [hX]; exact rfl
  have LY : Hid (Y.length = 4) := by rw [hY]; exact rfl
  rw [← hX] at c1
  rw [← hY] at c2
  rw [show x.val = .agg X.toArray from by rw [hX]; rfl, show y.val = .agg Y.toArray from by rw [hY]; rfl] at P3
  have C1 := hide c1
  have C2 := hide c2
  have B2 := hide b2
  have HD := hide (hb.later b2)
  have BY := hide hB
  have PB := hide (psB_bytes hx hy 17 (bs.length : Int))
  obtain ⟨Z, hZ⟩ : ∃ Z, Z = psB x y 17 (bs.length : Int) := ⟨_, rfl⟩
  have LZ : Hid (Z.length = 12) := by rw [hZ]; exact rfl
  rw [← hZ] at PB P3 ⊢
  obtain ⟨M, hM⟩ : ∃ M, M = Z ++ bs := ⟨_, rfl⟩
  have BM : Hid (Bytes M) := by rw [hM]; exact PB.out.append BY.out
  have LM : Hid ((M.length : Int) ≤ 4611686018427387900) := by unfold Hid; rw [hM, List.length_append, LZ.out]; omega
  have LL : Hid (Z.length + bs.length ≤ 140737488355328) := by unfold Hid; rw [LZ.out]; omega
  have EX : Hid (Z ++ bs = M) := hM.symm
  rw [← hM]
  obtain ⟨n, hn⟩ : ∃ n, n = bs.length := ⟨_, rfl⟩
  have HN := hide hn
  rw [← hn] at hl HD P3 ⊢
  rw [show x.val = .agg #[.int .u8 x.a, .int .u8 x.b, .int .u8 x.c, .int .u8 x.d] from rfl, show y.val = .agg #[.int .u8 y.a, .int .u8 y.b, .int .u8 y.c, .int .u8 y.d] from rfl]
  have hs1' := hs1.symm
  have hs2' := hs2.symm
  have hw1' := hw1.symm
  have hw2' := hw2.symm
  clear c1 c2 b2 hs1 hs2 hw1 hw2 hX hY hb hB hn hx hy hZ hM
  go_enter Try.func29, Try.ntmps29
  go_upto_region 1 with fail
  clear hs1' hs2' hw1' hw2'
  go_wp2_with (first | refine wpList_loadA rfl 23 4 aggI sizI _ rfl s1 0 rfl X LX.out C1.out ?_ | refine wpList_loadA rfl 23 4 aggI sizI _ rfl s2 0 rfl Y LY.out C2.out ?_)
  refine P3.out.mono ?_
  rintro _ w3 ⟨v3, rfl, g3, b3⟩
  have G3 := hide g3
  obtain ⟨a3, c3, e3, _⟩ := g3.isB.shape
  rw [LZ.out] at e3
  subst e3
  have B3 := hide (later B2.out b3)
  have I3 := hide (HD.out.later b3)
  have Z3 : Hid (w2.heap.size ≤ w3.heap.size) := b3.size
  clear g3 b3 P3
  go_wp2_with (at_builtin; refine wpList_growB rfl (.tmp 13) (.tmp 14) rfl rfl w2.heap.size (.slice a3 12 c3) _ Z bs rfl rfl G3.out I3.out Z3.out LL.out M EX.out ?_)
  intro a4 c4 w4 _ g4 b4
  have B4 : Hid (Below w.heap.size w w4) := B3.out.trans (b4.mono B2.out.size)
  have S4 := hide (rSum_any _ M w4 g4.isB BM.out LM.out)
  clear g4 b4
  go_wp2_with fail
  refine S4.out.mono ?_
  rintro _ wx ⟨rfl, hw⟩
  rw [hw]
  clear hw wx S4
  go_wp2
  go_ret
  exact ⟨rfl, B4.out⟩
set_option maxRecDepth 100000 in
set_option maxHeartbeats 8000000 in
theorem rEnc_any (x y : I4) (hx : x.Ok) (hy : y.Ok) (f t : Int) (da : Option Addr) (dc : Nat) (ds : List Int) (w : World) (hd : IsB w.heap.size w (.slice da ds.length dc) ds) (hB : Bytes ds) (hl : (ds.length : Int) ≤ 4611686018427387904) :
    Calls Try.prog 10 #[x.val, y.val, .int .i64 f, .int .i64 t, .slice da ds.length dc] w fun e w' => ∃ v, e = .returned (.tuple #[v, .int .i64 (ueE f t ds.length)]) ∧ Gro w.heap.size w' v (ueB x y f t ds) ∧ Below w.heap.size w w' := by
  obtain ⟨w1, w2, s1, s2, hs1, hw1, hs2, hw2, c1, c2, b2, l1, l2, _⟩ := twoI w x y
  have C1 := hide c1
  have C2 := hide c2
  have B2 := hide b2
  have HD := hide (hd.later b2)
  have BY := hide hB
  have XO := hide hx
  have YO := hide hy
  obtain ⟨n, hn⟩ : ∃ n, n = ds.length := ⟨_, rfl⟩
  obtain ⟨R, hR⟩ : ∃ R, R = ueB x y f t ds := ⟨_, rfl⟩
  obtain ⟨E, hE⟩ : ∃ E, E = ueE f t ds.length := ⟨_, rfl⟩
  have HR : Hid (R = if E = 0 then ldB f t ds (usm x y f t ds) else []) := by rw [hR, hE]; exact rfl
  have HE : Hid (E = ueE f t n) := by rw [hE, hn]; exact rfl
  have US : Hid (usm x y f t ds = if csum (psB x y 17 (8 + (n : Int)) ++ ldB f t ds 0) = 0 then 65535 else csum (psB x y 17 (8 + (n : Int)) ++ ldB f t ds 0)) := by unfold Hid; rw [sum_zero, hn]; rfl
  rw [← hR, ← hE]
  have HN := hide hn
  rw [← hn] at hl HD ⊢
  rw [show x.val = .agg #[.int .u8 x.a, .int .u8 x.b, .int .u8 x.c, .int .u8 x.d] from rfl, show y.val = .agg #[.int .u8 y.a, .int .u8 y.b, .int .u8 y.c, .int .u8 y.d] from rfl]
  have hs1' := hs1.symm
  have hs2' := hs2.symm
  have hw1' := hw1.symm
  have hw2' := hw2.symm
  clear c1 c2 b2 hs1 hs2 hw1 hw2 hd hB hn hR hE hx hy
  go_enter Try.func10, Try.ntmps10
  go_upto_region 1 with fail
  clear hs1' hs2' hw1' hw2'
  by_cases hp : ueE f t 0 = 1
  · have e : E = 1 := by
      rw [HE.out]
      unfold ueE at hp ⊢
      split at hp
      · rename_i h; rw [if_pos h]
      · simp at hp
    have eR : R = [] := by rw [HR.out, if_neg (by rw [e]; decide)]
    subst e eR
    have bad : ¬ (1 ≤ f ∧ f ≤ 65535) ∨ ¬ (1 ≤ t ∧ t ≤ 65535) := by
      unfold ueE at hp
      split at hp
      · rename_i h
        rcases h with h | h
        · left; unfold prt at h; simp at h; omega
        · right; unfold prt at h; simp at h; omega
      · simp at hp
    clear hp
    by_cases q1 : f < 1
    · go_wp2
      refine bodyPost_ret (v := .tuple #[.slice none 0 0, .int .i64 1]) (by simp [results, go_sem]) rfl ?_
      exact ⟨_, rfl, Gro.nil _ _, B2.out⟩
    by_cases q2 : 65535 < f
    · go_wp2
      refine bodyPost_ret (v := .tuple #[.slice none 0 0, .int .i64 1]) (by simp [results, go_sem]) rfl ?_
      exact ⟨_, rfl, Gro.nil _ _, B2.out⟩
    by_cases q3 : t < 1
    · go_wp2
      refine bodyPost_ret (v := .tuple #[.slice none 0 0, .int .i64 1]) (by simp [results, go_sem]) rfl ?_
      exact ⟨_, rfl, Gro.nil _ _, B2.out⟩
    have q4 : 65535 < t := by omega
    clear bad
    go_wp2
    refine bodyPost_ret (v := .tuple #[.slice none 0 0, .int .i64 1]) (by simp [results, go_sem]) rfl ?_
    exact ⟨_, rfl, Gro.nil _ _, B2.out⟩
  have good : prt f = true ∧ prt t = true := by
    unfold ueE at hp
    split at hp
    · exact absurd rfl hp
    · rename_i h
      refine ⟨?_, ?_⟩
      · cases e : prt f with
        | true => rfl
        | false => exact absurd (Or.inl e) h
      · cases e : prt t with
        | true => rfl
        | false => exact absurd (Or.inr e) h
  obtain ⟨f0, f1⟩ := prt_true good.1
  obtain ⟨t0, t1⟩ := prt_true good.2
  have HG := hide good
  have q1 : ¬ f < 1 := by omega
  have q2 : ¬ 65535 < f := by omega
  have q3 : ¬ t < 1 := by omega
  have q4 : ¬ 65535 < t := by omega
  clear hp good
  by_cases h1 : 1016 < n
  · have e : E = 2 := by rw [HE.out, ueE, if_neg (by rw [HG.out.1, HG.out.2]; decide), if_pos h1]
    have eR : R = [] := by rw [HR.out, if_neg (by rw [e]; decide)]
    subst e eR
    have z : (1016 : Int) < (n : Int) := by omega
    go_wp2
    refine bodyPost_ret (v := .tuple #[.slice none 0 0, .int .i64 2]) (by simp [results, go_sem]) rfl ?_
    exact ⟨_, rfl, Gro.nil _ _, B2.out⟩
  have e : E = 0 := by rw [HE.out, ueE, if_neg (by rw [HG.out.1, HG.out.2]; decide), if_neg h1]
  rw [if_pos e] at HR
  subst e
  have z : ¬ (1016 : Int) < (n : Int) := by omega
  obtain ⟨Z, hZ⟩ : ∃ Z, Z = ldB f t ds 0 := ⟨_, rfl⟩
  have LZ : Hid (Z.length = 8 + n) := by rw [hZ, ldB_len, HN.out]; exact rfl
  have BZ : Hid (Bytes Z) := by rw [hZ]; exact ldB_bytes f t 0 BY.out
  obtain ⟨cs, hcs⟩ : ∃ cs, cs = csum (psB x y 17 (8 + (n : Int)) ++ ldB f t ds 0) := ⟨_, rfl⟩
  rw [← hcs] at US
  have CB : 0 ≤ cs ∧ cs ≤ 65535 := by rw [hcs]; exact csum_bd _
  have K1 : Hid (∀ W, Below w2.heap.size w2 W → Calls Try.prog 30 #[.int .i64 f, .int .i64 t, .slice da n dc, .int .i64 0] W fun e W' => ∃ v, e = .returned v ∧ (∃ a c, v = .slice a (8 + n) c ∧ IsB W'.heap.size W' (.slice a (8 + n) c) Z) ∧ Below W.heap.size W W') := fun W hW => by
    have h := rLaid_any f t (by omega) f1 (by omega) t1 0 (by decide) (by decide) da dc ds (by rw [← HN.out]; omega) W (by have := HD.out.later hW; rw [HN.out] at this; exact this)
    rw [← HN.out, ← hZ] at h
    refine h.mono ?_
    rintro _ W' ⟨v, rfl, g, hb⟩
    obtain ⟨a', c', e', _⟩ := g.isB.shape
    rw [LZ.out] at e'
    subst e'
    exact ⟨_, rfl, ⟨a', c', rfl, g.isB⟩, hb⟩
  have K2 : Hid (∀ W (a' : Option Addr) (c' : Nat), IsB W.heap.size W (.slice a' (8 + n) c') Z → Calls Try.prog 29 #[x.val, y.val, .slice a' (8 + n) c'] W fun e W' => ∃ v, e = .returned v ∧ v = .int .i64 cs ∧ Below W.heap.size W W') := fun W a' c' hi => by
    have h := rSm_any x y XO.out YO.out (.slice a' (8 + n) c') Z W hi BZ.out (by rw [LZ.out]; omega)
    rw [LZ.out, hZ, show ((8 + n : Nat) : Int) = 8 + (n : Int) by omega, ← hcs] at h
    refine h.mono ?_
    rintro _ W' ⟨rfl, hb⟩
    exact ⟨_, rfl, rfl, hb⟩
  clear hcs hZ
  go_upto_region 5 with fail
  have BW : ∀ W, Below w2.heap.size w2.drew W → Below w2.heap.size w2 W := fun W hb => later (later_drew _) hb
  refine region_grow (w := w2) (fun i v W => match i with | 0 => v = .agg (x.vals).toArray | 1 => v = .agg (y.vals).toArray | 2 => v = .int .i64 f | 3 => v = .int .i64 t | 4 => v = .slice da n dc | 5 => ∃ a c, v = .slice a (8 + n) c ∧ IsB W.heap.size W (.slice a (8 + n) c) Z | 6 => v = .int .i64 cs | 7 => v = .int .i64 cs | _ => True) (by kernel_rfl) (by kernel_rfl) (by kernel_rfl) (no_guard (by kernel_rfl)) (fun i v W W' h hb => match i, h with | 0, h => h | 1, h => h | 2, h => h | 3, h => h | 4, h => h | 5, h => (by obtain ⟨a, c, e, h⟩ := h; exact ⟨a, c, e, h.later hb⟩) | 6, h => h | 7, h => h | _ + 8, h => h) ?_ ?_
  · intro listed a W hM hn i o ho hr
    have B := hM.bel
    match i, ho, hr with
    | 0, ho, hr =>
      have u5 : a.eval (.tmp 5) = .pointer (some ⟨s1, 0, none⟩) := hM.keep (t := 5) (by kernel_rfl)
      exact Step.of rfl (.inl ⟨.agg (x.vals).toArray, W, exec_loadA 23 4 aggI sizI _ rfl s1 0 u5 (x.vals) rfl (C1.out.later l1 (BW W B)), Below.refl _ _, rfl⟩) ho
    | 1, ho, hr =>
      have u6 : a.eval (.tmp 6) = .pointer (some ⟨s2, 0, none⟩) := hM.keep (t := 6) (by kernel_rfl)
      exact Step.of rfl (.inl ⟨.agg (y.vals).toArray, W, exec_loadA 23 4 aggI sizI _ rfl s2 0 u6 (y.vals) rfl (C2.out.later l2 (BW W B)), Below.refl _ _, rfl⟩) ho
    | 2, ho, hr =>
      have u2 : a.eval (.tmp 2) = .int .i64 f := hM.keep (t := 2) (by kernel_rfl)
      exact Step.of rfl (.inl ⟨.int .i64 f, W, exec_move _ _ rfl u2, Below.refl _ _, rfl⟩) ho
    | 3, ho, hr =>
      have u3 : a.eval (.tmp 3) = .int .i64 t := hM.keep (t := 3) (by kernel_rfl)
      exact Step.of rfl (.inl ⟨.int .i64 t, W, exec_move _ _ rfl u3, Below.refl _ _, rfl⟩) ho
    | 4, ho, hr =>
      have u4 : a.eval (.tmp 4) = .slice da n dc := hM.keep (t := 4) (by kernel_rfl)
      exact Step.of rfl (.inl ⟨.slice da n dc, W, exec_move _ _ rfl u4, Below.refl _ _, rfl⟩) ho
    | 5, ho, hr =>
      have u32 := hM.use hr rfl (j := 2) (by kernel_rfl) rfl rfl
      have u32 : a.eval (.tmp 32) = .int .i64 f := u32
      have u33 := hM.use hr rfl (j := 3) (by kernel_rfl) rfl rfl
      have u33 : a.eval (.tmp 33) = .int .i64 t := u33
      have u34 := hM.use hr rfl (j := 4) (by kernel_rfl) rfl rfl
      have u34 : a.eval (.tmp 34) = .slice da n dc := u34
      refine Step.of rfl (.inr ⟨30, #[.int .i64 f, .int .i64 t, .slice da n dc, .int .i64 0], exec_callF _ _ _ _ rfl (map4 u32 u33 u34 rfl) (enters_of Try.func30 (by kernel_rfl) rfl), ?_⟩) ho
      exact K1.out W (BW W B)
    | 6, ho, hr =>
      have u30 := hM.use hr rfl (j := 0) (by kernel_rfl) rfl rfl
      have u30 : a.eval (.tmp 30) = .agg (x.vals).toArray := u30
      have u31 := hM.use hr rfl (j := 1) (by kernel_rfl) rfl rfl
      have u31 : a.eval (.tmp 31) = .agg (y.vals).toArray := u31
      have u35 := hM.use hr rfl (j := 5) (by kernel_rfl) rfl rfl
      have u35 : (fun v W => ∃ a c, v = .slice a (8 + n) c ∧ IsB W.heap.size W (.slice a (8 + n) c) Z) (a.eval (.tmp 35)) W := u35
      refine Step.of rfl (.inr ⟨29, #[.agg x.vals.toArray, .agg y.vals.toArray, a.eval (.tmp 35)], exec_callF _ _ _ _ rfl (map3 u30 u31 rfl) (enters_of Try.func29 (by kernel_rfl) rfl), ?_⟩) ho
      exact by obtain ⟨a', c', e', h'⟩ := u35; rw [e']; exact K2.out W a' c' h'
    | 7, ho, hr =>
      have u36 := hM.use hr rfl (j := 6) (by kernel_rfl) rfl rfl
      have u36 : (fun v W => v = .int .i64 cs) (a.eval (.tmp 36)) W := u36
      exact Step.of rfl (.inl ⟨_, W, exec_assign _ _ rfl rfl, Below.refl _ _, u36⟩) ho
    | n + 8, ho, _ => exact absurd (Array.getElem?_eq_some_iff.1 ho).1 (by simp)
  intro listed a W hM hl
  have B := hM.bel
  have p30 : a.tmps.getD 30 undef = .agg (x.vals).toArray := hM.got 0 _ _ rfl (hl 0 (by decide)) rfl
  have p31 : a.tmps.getD 31 undef = .agg (y.vals).toArray := hM.got 1 _ _ rfl (hl 1 (by decide)) rfl
  have p32 : a.tmps.getD 32 undef = .int .i64 f := hM.got 2 _ _ rfl (hl 2 (by decide)) rfl
  have p33 : a.tmps.getD 33 undef = .int .i64 t := hM.got 3 _ _ rfl (hl 3 (by decide)) rfl
  have p34 : a.tmps.getD 34 undef = .slice da n dc := hM.got 4 _ _ rfl (hl 4 (by decide)) rfl
  have p35 : (fun v W => ∃ a c, v = .slice a (8 + n) c ∧ IsB W.heap.size W (.slice a (8 + n) c) Z) (a.tmps.getD 35 undef) W := hM.got 5 _ _ rfl (hl 5 (by decide)) rfl
  have p36 : (fun v W => v = .int .i64 cs) (a.tmps.getD 36 undef) W := hM.got 6 _ _ rfl (hl 6 (by decide)) rfl
  have p12 : (fun v W => v = .int .i64 cs) (a.tmps.getD 12 undef) W := hM.got 7 _ _ rfl (hl 7 (by decide)) rfl
  rw [hM.lit [30, 31, 32, 33, 34, 35, 36, 12] (by kernel_rfl)]
  clear hM hl
  simp only [fill, List.foldl_cons, List.foldl_nil, Act.put, List.setIfInBounds_toArray, List.set_cons_zero, List.set_cons_succ]
  clear p30
  generalize a.tmps.getD 30 undef = x30 at *
  clear p31
  generalize a.tmps.getD 31 undef = x31 at *
  clear p32
  generalize a.tmps.getD 32 undef = x32 at *
  clear p33
  generalize a.tmps.getD 33 undef = x33 at *
  clear p34
  generalize a.tmps.getD 34 undef = x34 at *
  generalize a.tmps.getD 35 undef = x35 at *
  generalize a.tmps.getD 36 undef = x36 at *
  generalize a.tmps.getD 12 undef = x12 at *
  have B5 := hide (later B2.out (BW W B))
  have B25 := hide (BW W B)
  subst p12
  clear p35 p36 BW B K1 K2
  obtain ⟨sm, hsm⟩ : ∃ sm, sm = usm x y f t ds := ⟨_, rfl⟩
  rw [← hsm] at US HR
  clear hsm
  go_upto_if 38 with fail
  go_cut [12] (fun v wc => v = .int .i64 sm ∧ W = wc)
  case first =>
    by_cases e0 : cs = 0
    · rw [if_pos e0] at US
      have z0 : (cs == 0) = true := by simpa using e0
      clear e0
      go_wp2
      go_meet
      case rel => exact ⟨by rw [US.out], rfl⟩
    · rw [if_neg e0] at US
      have z0 : (cs == 0) = false := by simpa using e0
      clear e0
      go_wp2
      go_meet
      case rel => exact ⟨by rw [US.out], rfl⟩
  case rest =>
    obtain ⟨rfl, hcw⟩ := hcut
    subst hcw
    have sb : 0 ≤ sm ∧ sm ≤ 65535 := by
      have h := US.out
      split at h
      · omega
      · rw [h]; exact CB
    have Q7 := hide (rLaid_any f t (by omega) f1 (by omega) t1 sm sb.1 sb.2 da dc ds (by rw [← HN.out]; omega) W (by have := HD.out.later B25.out; rw [HN.out] at this; exact this))
    rw [← HN.out, ← HR.out] at Q7
    go_wp2_with fail
    refine Q7.out.mono ?_
    rintro _ w8 ⟨v8, rfl, g8, b8⟩
    have G8 : Hid (Gro w.heap.size w8 v8 R) := g8.low B5.out.size
    have B8 := hide (later B5.out b8)
    obtain ⟨a8, c8, rfl, _⟩ := g8.isB.shape
    clear g8 b8 Q7
    go_wp2
    refine bodyPost_ret (v := .tuple #[.slice a8 R.length c8, .int .i64 0]) (by simp [results, go_sem]) rfl ?_
    exact ⟨_, rfl, G8.out, B8.out⟩
end Go.Proofs.Ythjeaebpboilpaa
