
/-
  Package udp: small functions; Encode.
-/
import Derived.Test.YthjeaebpboilpaaU1
namespace Go.Proofs.Ythjeaebpboilpaa
open Go.RowKit Go.Shelf

/-- is it a port? -/
def prt (n : Int) : Bool := decide (1 ≤ n) && decide (n ≤ 65535)
theorem prt_true {n : Int} (h : prt n = true) : 1 ≤ n ∧ n ≤ 65535 := by
  unfold prt at h
  simpa using h
theorem isPort_any (n : Int) (w : World) : Calls Try.prog 25 #[.int .i64 n] w fun e w' => e = .returned (.bool (prt n)) ∧ w' = w := by
  by_cases h1 : 1 ≤ n
  · by_cases h2 : n ≤ 65535
    · have e : prt n = true := by unfold prt; simp [h1, h2]
      rw [e]
      go_enter Try.func25, Try.ntmps25
      go_wp2
      go_ret
      exact ⟨rfl, rfl⟩
    · have e : prt n = false := by unfold prt; simp [h2]
      rw [e]
      go_enter Try.func25, Try.ntmps25
      go_wp2
      go_ret
      exact ⟨rfl, rfl⟩
  · have e : prt n = false := by unfold prt; simp [h1]
    rw [e]
    go_enter Try.func25, Try.ntmps25
    go_wp2
    go_ret
    exact ⟨rfl, rfl⟩
theorem uAt_any (v : Value) (bs : List Int) (k : Int) (w : World) (hb : IsB w.heap.size w v bs) (hB : Bytes bs) (hl : (bs.length : Int) ≤ 4611686018427387904) (h1 : k ≤ 9223372036854775807) :
    Calls Try.prog 31 #[v, .int .i64 k] w fun e w' => e = .returned (.int .i64 (rd16 bs k)) ∧ Below w.heap.size w w' := by
  obtain ⟨a, c, rfl, _⟩ := hb.shape
  have C := hide (At16_any _ bs k w hb hB hl h1)
  obtain ⟨n, hn⟩ : ∃ n, n = bs.length := ⟨_, rfl⟩
  rw [← hn] at C ⊢
  clear hb hl hn
  go_enter Try.func31, Try.ntmps31
  go_wp2_with fail
  refine C.out.mono ?_
  rintro _ w2 ⟨rfl, b2⟩
  have B2 := hide b2
  clear b2 C
  go_wp2
  go_ret
  exact ⟨rfl, B2.out⟩
/-- ahead of the sum; the sum; the datagram; what Encode answers -/
def uah (f t : Int) (n : Nat) : List Int := put16 f ++ put16 t ++ put16 (8 + (n : Int))
def usm (x y : I4) (f t : Int) (b : List Int) : Int := if csum (psB x y 17 (8 + (b.length : Int)) ++ uah f t b.length ++ b) = 0 then 65535 else csum (psB x y 17 (8 + (b.length : Int)) ++ uah f t b.length ++ b)
def udB (x y : I4) (f t : Int) (b : List Int) : List Int := uah f t b.length ++ put16 (usm x y f t b) ++ b
def ueE (f t : Int) (n : Nat) : Int := if prt f = false ∨ prt t = false then 1 else if 1016 < n then 2 else 0
def ueB (x y : I4) (f t : Int) (b : List Int) : List Int := if ueE f t b.length = 0 then udB x y f t b else []
theorem psB_len (x y : I4) (p n : Int) : (psB x y p n).length = 12 := rfl
theorem uah_len (f t : Int) (n : Nat) : (uah f t n).length = 6 := rfl
theorem psB_bytes {x y : I4} (hx : x.Ok) (hy : y.Ok) (p n : Int) : Bytes (psB x y p n) := by
  unfold psB
  refine (ipL_bytes hx).append ((ipL_bytes hy).append (Bytes.append ?_ (put16_bytes n)))
  intro z hz
  simp at hz
  omega
theorem uah_bytes (f t : Int) (n : Nat) : Bytes (uah f t n) := ((put16_bytes f).append (put16_bytes t)).append (put16_bytes _)
theorem udB_len (x y : I4) (f t : Int) (b : List Int) : (udB x y f t b).length = 8 + b.length := by simp [udB, uah, put16]; omega
theorem udB_bytes (x y : I4) (f t : Int) {b : List Int} (hb : Bytes b) : Bytes (udB x y f t b) := ((uah_bytes f t _).append (put16_bytes _)).append hb
theorem ueE_zero {f t : Int} {n : Nat} (h : ueE f t n = 0) : prt f = true ∧ prt t = true ∧ n ≤ 1016 := by
  unfold ueE at h
  split at h
  · cases h
  · rename_i h1
    split at h
    · cases h
    · refine ⟨?_, ?_, by omega⟩
      · cases e : prt f with
        | true => rfl
        | false => exact absurd (Or.inl e) h1
      · cases e : prt t with
        | true => rfl
        | false => exact absurd (Or.inr e) h1
set_option maxRecDepth 100000 in
set_option maxHeartbeats 8000000 in
theorem uEnc_any (x y : I4) (hx : x.Ok) (hy : y.Ok) (f t : Int) (da : Option Addr) (dc : Nat) (ds : List Int) (w : World) (hd : IsB w.heap.size w (.slice da ds.length dc) ds) (hB : Bytes ds) (hl : (ds.length : Int) ≤ 4611686018427387904) :
    Calls Try.prog 9 #[x.val, y.val, .int .i64 f, .int .i64 t, .slice da ds.length dc] w fun e w' => ∃ v, e = .returned (.tuple #[v, .int .i64 (ueE f t ds.length)]) ∧ Gro w.heap.size w' v (ueB x y f t ds) ∧ Below w.heap.size w w' := by
  obtain ⟨w1, w2, s1, s2, hs1, hw1, hs2, hw2, c1, c2, b2, l1, l2, _⟩ := twoI w x y
  have P3 := hide (Pseudo_any x y 17 (8 + (ds.length : Int)))
  obtain ⟨X, hX⟩ : ∃ X, X = x.vals := ⟨_, rfl⟩
  obtain ⟨Y, hY⟩ : ∃ Y, Y = y.vals := ⟨_, rfl⟩
  have LX : Hid (X.length = 4) := by rw [hX]; exact rfl
  have LY : Hid (Y.length = 4) := by rw [hY]; exact rfl
  rw [← hX] at c1
  rw [← hY] at c2
  rw [show x.val = .agg X.toArray from by rw [hX]; rfl, show y.val = .agg Y.toArray from by rw [hY]; rfl] at P3
  have C1 := hide c1
  have C2 := hide c2
  have B2 := hide b2
  have HD := hide (hd.later b2)
  have BY := hide hB
  have PB := hide (psB_bytes hx hy 17 (8 + (ds.length : Int)))
  obtain ⟨n, hn⟩ : ∃ n, n = ds.length := ⟨_, rfl⟩
  obtain ⟨R, hR⟩ : ∃ R, R = ueB x y f t ds := ⟨_, rfl⟩
  obtain ⟨E, hE⟩ : ∃ E, E = ueE f t ds.length := ⟨_, rfl⟩
  have HR : Hid (R = if E = 0 then udB x y f t ds else []) := by rw [hR, hE]; exact rfl
  have HE : Hid (E = ueE f t n) := by rw [hE, hn]; exact rfl
  have UD : Hid (udB x y f t ds = uah f t n ++ put16 (usm x y f t ds) ++ ds) := by rw [hn]; exact rfl
  have US : Hid (usm x y f t ds = if csum (psB x y 17 (8 + (n : Int)) ++ uah f t n ++ ds) = 0 then 65535 else csum (psB x y 17 (8 + (n : Int)) ++ uah f t n ++ ds)) := by rw [hn]; exact rfl
  rw [← hR, ← hE]
  rw [← hn] at hl HD P3 PB ⊢
  rw [show x.val = .agg #[.int .u8 x.a, .int .u8 x.b, .int .u8 x.c, .int .u8 x.d] from rfl, show y.val = .agg #[.int .u8 y.a, .int .u8 y.b, .int .u8 y.c, .int .u8 y.d] from rfl]
  have hs1' := hs1.symm
  have hs2' := hs2.symm
  have hw1' := hw1.symm
  have hw2' := hw2.symm
  have HN := hide hn
  clear c1 c2 b2 hs1 hs2 hw1 hw2 hX hY hd hB hn hR hE hx hy
  have M1 := hide (isPort_any f w2)
  have M2 := hide (isPort_any t w2)
  go_enter Try.func9, Try.ntmps9
  go_wp2_with fail
  clear hs1' hs2' hw1' hw2'
  refine M1.out.mono ?_
  rintro _ wx ⟨rfl, hw⟩
  rw [hw]
  clear hw wx
  cases hf : prt f with
  | false =>
    have e : E = 1 := by rw [HE.out, ueE, if_pos (.inl hf)]
    have eR : R = [] := by rw [HR.out, if_neg (by rw [e]; decide)]
    subst e eR
    clear hf
    go_wp2
    refine bodyPost_ret (v := .tuple #[.slice none 0 0, .int .i64 1]) (by simp [results, go_sem]) rfl ?_
    exact ⟨_, rfl, Gro.nil _ _, B2.out⟩
  | true =>
  go_wp2_with fail
  refine M2.out.mono ?_
  rintro _ wx ⟨rfl, hw⟩
  rw [hw]
  clear hw wx
  cases ht : prt t with
  | false =>
    have e : E = 1 := by rw [HE.out, ueE, if_pos (.inr ht)]
    have eR : R = [] := by rw [HR.out, if_neg (by rw [e]; decide)]
    subst e eR
    clear hf ht
    go_wp2
    refine bodyPost_ret (v := .tuple #[.slice none 0 0, .int .i64 1]) (by simp [results, go_sem]) rfl ?_
    exact ⟨_, rfl, Gro.nil _ _, B2.out⟩
  | true =>
  by_cases h1 : 1016 < n
  · have e : E = 2 := by rw [HE.out, ueE, if_neg (by rw [hf, ht]; decide), if_pos h1]
    have eR : R = [] := by rw [HR.out, if_neg (by rw [e]; decide)]
    subst e eR
    have z : (1016 : Int) < (n : Int) := by omega
    clear hf ht
    go_wp2
    refine bodyPost_ret (v := .tuple #[.slice none 0 0, .int .i64 2]) (by simp [results, go_sem]) rfl ?_
    exact ⟨_, rfl, Gro.nil _ _, B2.out⟩
  have e : E = 0 := by rw [HE.out, ueE, if_neg (by rw [hf, ht]; decide), if_neg h1]
  have eR : R = udB x y f t ds := by rw [HR.out, if_pos e]
  subst e
  have HR2 := hide eR
  have z : ¬ (1016 : Int) < (n : Int) := by omega
  have Q1 := hide (Put16_any (.slice none 0 0) [] f w2 (IsB.nil _ _) (by decide))
  clear hf ht M1 M2 eR
  go_wp2_with fail
  refine Q1.out.mono ?_
  rintro _ w3 ⟨v3, rfl, o3, b3⟩
  have B3 := hide (later B2.out b3)
  have b23 := b3
  have Q2 := hide (Put16_any v3 _ t w3 o3.isB (by simp [put16]))
  obtain ⟨g3, rfl, _⟩ := o3
  clear b3 Q1
  go_wp2_with fail
  refine Q2.out.mono ?_
  rintro _ w4 ⟨v4, rfl, o4, b4⟩
  have b24 := later b23 b4
  have Q3 := hide (Put16_any v4 _ (8 + (n : Int)) w4 o4.isB (by simp [put16]))
  obtain ⟨g4, rfl, _⟩ := o4
  clear b4 Q2 b23
  go_wp2_with fail
  refine Q3.out.mono ?_
  rintro _ w5 ⟨v5, rfl, o5, b5⟩
  have b25 := later b24 b5
  have A5 : Hid (IsB w5.heap.size w5 v5 (uah f t n)) := o5.isB
  obtain ⟨g5, rfl, _⟩ := o5
  obtain ⟨n5, hn5⟩ : ∃ n5, n5 = ([] ++ put16 f ++ put16 t ++ put16 (8 + (n : Int))).length := ⟨_, rfl⟩
  rw [← hn5] at A5 ⊢
  have B5 := hide (later B2.out b25)
  have C15 := hide (C1.out.later l1 b25)
  have C25 := hide (C2.out.later l2 b25)
  have HD5 := hide (HD.out.later b25)
  have P5 := hide (P3.out w5)
  clear b5 b24 b25 Q3 hn5 B3
  go_wp2_with (first | refine wpList_loadA rfl 23 4 aggI sizI _ rfl s1 0 rfl X LX.out C15.out ?_ | refine wpList_loadA rfl 23 4 aggI sizI _ rfl s2 0 rfl Y LY.out C25.out ?_)
  refine P5.out.mono ?_
  rintro _ w6 ⟨v6, rfl, i6, b6⟩
  obtain ⟨a6, c6, rfl, _⟩ := i6.shape
  have B6 := hide (later B5.out b6)
  have A6 := hide (A5.out.later b6)
  have HD6 := hide (HD5.out.later b6)
  have SM := hide (Sum3 (.slice a6 (psB x y 17 (8 + (n : Int))).length c6) (.slice (some ⟨g5, 0, none⟩) n5 n5) (.slice da n dc) _ _ _ w6 i6 A6.out HD6.out PB.out (uah_bytes f t n) BY.out (by rw [psB_len, uah_len, ← HN.out]; omega))
  rw [psB_len] at SM ⊢
  obtain ⟨cs, hcs⟩ : ∃ cs, cs = csum (psB x y 17 (8 + (n : Int)) ++ uah f t n ++ ds) := ⟨_, rfl⟩
  rw [← hcs] at SM US
  clear b6 i6 P5 C15 C25 hcs B5 A5 HD5
  go_wp2_with fail
  refine SM.out.mono ?_
  rintro _ w7 ⟨rfl, b7⟩
  have B7 := hide (later B6.out b7)
  have A7 := hide (A6.out.later b7)
  have HD7 := hide (HD6.out.later b7)
  obtain ⟨sm, hsm⟩ : ∃ sm, sm = usm x y f t ds := ⟨_, rfl⟩
  rw [← hsm] at US UD
  clear b7 SM B6 A6 HD6 hsm
  go_upto_if 44 with fail
  go_cut [14] (fun v wc => v = .int .i64 sm ∧ w7 = wc)
  case first =>
    by_cases e0 : cs = 0
    · rw [if_pos e0] at US
      have z0 : (cs == 0) = true := by simpa using e0
      clear e0
      go_wp2
      go_meet
      case rel => exact ⟨by rw [US.out], rfl⟩
    · rw [if_neg e0] at US
      have z0 : (cs == 0) = false := by simpa using e0
      clear e0
      go_wp2
      go_meet
      case rel => exact ⟨by rw [US.out], rfl⟩
  case rest =>
    obtain ⟨rfl, hcw⟩ := hcut
    subst hcw
    have Q7 := hide (Put16_any (.slice (some ⟨g5, 0, none⟩) n5 n5) (uah f t n) sm w7 A7.out (by rw [uah_len]; decide))
    go_wp2_with fail
    refine Q7.out.mono ?_
    rintro _ w8 ⟨v8, rfl, o8, b8⟩
    obtain ⟨X8, hX8⟩ : ∃ X8, X8 = uah f t n ++ put16 sm := ⟨_, rfl⟩
    have L8 : Hid (X8.length = 8) := by rw [hX8]; exact rfl
    rw [← hX8] at o8 UD
    have G8 := hide (o8.gro (by rw [L8.out]; decide))
    have I8 := hide (HD7.out.later b8)
    have B8 := hide (later B7.out b8)
    obtain ⟨g8, rfl, _⟩ := o8
    have LL : Hid (X8.length + ds.length ≤ 140737488355328) := by unfold Hid; rw [L8.out, ← HN.out]; omega
    have Z7 : Hid (w7.heap.size ≤ w8.heap.size) := b8.size
    have Z6 : Hid (w.heap.size ≤ w7.heap.size) := B7.out.size
    obtain ⟨M, hM⟩ : ∃ M, M = udB x y f t ds := ⟨_, rfl⟩
    rw [← hM] at UD HR2
    have EX : Hid (X8 ++ ds = M) := UD.out.symm
    rw [L8.out] at G8 ⊢
    clear b8 Q7 hX8 hM A7 HD7
    go_wp2_with (at_builtin; refine wpList_growB rfl (.tmp 47) (.tmp 48) rfl rfl w7.heap.size (.slice (some ⟨g8, 0, none⟩) 8 8) _ X8 ds rfl rfl G8.out I8.out Z7.out LL.out M EX.out ?_)
    intro a9 c9 w9 _ g9 b9
    have G9 : Hid (Gro w.heap.size w9 (.slice a9 M.length c9) M) := g9.low Z6.out
    have B9 : Hid (Below w.heap.size w w9) := B8.out.trans (b9.mono Z6.out)
    clear g9 b9
    go_wp2
    refine bodyPost_ret (v := .tuple #[.slice a9 M.length c9, .int .i64 0]) (by simp [results, go_sem]) rfl ?_
    exact ⟨_, rfl, (by rw [HR2.out]; exact G9.out), B9.out⟩
end Go.Proofs.Ythjeaebpboilpaa
