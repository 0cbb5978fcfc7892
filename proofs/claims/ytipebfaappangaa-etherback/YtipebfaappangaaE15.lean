
/-
  What was encoded is decoded as it was, but for noughts behind it; what is decoded is encoded as the same bytes.
-/
import Derived.Test.YtipebfaappangaaE14
namespace Go.Proofs.Ytipebfaappangaa

theorem uncons {L : List Int} (n : Nat) (h : n < L.length) : ∃ x r, L = x :: r ∧ r.length + 1 = L.length := by
  match L, h with
  | x :: r, _ => exact ⟨x, r, rfl, by simp⟩
theorem uncons18 {L : List Int} (h : 18 ≤ L.length) : ∃ x0 x1 x2 x3 x4 x5 x6 x7 x8 x9 x10 x11 x12 x13 x14 x15 x16 x17 r, L = x0 :: x1 :: x2 :: x3 :: x4 :: x5 :: x6 :: x7 :: x8 :: x9 :: x10 :: x11 :: x12 :: x13 :: x14 :: x15 :: x16 :: x17 :: r := by
  obtain ⟨x0, r0, e0, h0⟩ := uncons 0 (show 0 < L.length by omega)
  obtain ⟨x1, r1, e1, h1⟩ := uncons 0 (show 0 < r0.length by omega)
  obtain ⟨x2, r2, e2, h2⟩ := uncons 0 (show 0 < r1.length by omega)
  obtain ⟨x3, r3, e3, h3⟩ := uncons 0 (show 0 < r2.length by omega)
  obtain ⟨x4, r4, e4, h4⟩ := uncons 0 (show 0 < r3.length by omega)
  obtain ⟨x5, r5, e5, h5⟩ := uncons 0 (show 0 < r4.length by omega)
  obtain ⟨x6, r6, e6, h6⟩ := uncons 0 (show 0 < r5.length by omega)
  obtain ⟨x7, r7, e7, h7⟩ := uncons 0 (show 0 < r6.length by omega)
  obtain ⟨x8, r8, e8, h8⟩ := uncons 0 (show 0 < r7.length by omega)
  obtain ⟨x9, r9, e9, h9⟩ := uncons 0 (show 0 < r8.length by omega)
  obtain ⟨x10, r10, e10, h10⟩ := uncons 0 (show 0 < r9.length by omega)
  obtain ⟨x11, r11, e11, h11⟩ := uncons 0 (show 0 < r10.length by omega)
  obtain ⟨x12, r12, e12, h12⟩ := uncons 0 (show 0 < r11.length by omega)
  obtain ⟨x13, r13, e13, h13⟩ := uncons 0 (show 0 < r12.length by omega)
  obtain ⟨x14, r14, e14, h14⟩ := uncons 0 (show 0 < r13.length by omega)
  obtain ⟨x15, r15, e15, h15⟩ := uncons 0 (show 0 < r14.length by omega)
  obtain ⟨x16, r16, e16, h16⟩ := uncons 0 (show 0 < r15.length by omega)
  obtain ⟨x17, r17, e17, h17⟩ := uncons 0 (show 0 < r16.length by omega)
  refine ⟨x0, x1, x2, x3, x4, x5, x6, x7, x8, x9, x10, x11, x12, x13, x14, x15, x16, x17, r17, ?_⟩
  rw [e0, e1, e2, e3, e4, e5, e6, e7, e8, e9, e10, e11, e12, e13, e14, e15, e16, e17]

theorem put16_of {n x y : Int} (h : n = 256 * x + y) (x0 : 0 ≤ x) (x1 : x ≤ 255) (y0 : 0 ≤ y) (y1 : y ≤ 255) : put16 n = [x, y] := by
  unfold put16
  rw [show n / 256 % 256 = x by omega, show n % 256 = y by omega]

/-- what is decoded is encoded as the same bytes -/
theorem back_raw {raw : List Int} (hB : Bytes raw) (h : deE raw = 0) : enE (deF raw) (deB raw).length = 0 ∧ enB (deF raw) (deB raw) = raw := by
  rw [deF, deB, if_pos h, if_pos h]
  unfold deE at h
  by_cases h60 : raw.length < 60
  · rw [if_pos h60] at h; omega
  rw [if_neg h60] at h
  by_cases hl : 256 + hsz (hdF raw).tag < raw.length
  · rw [if_pos hl] at h; omega
  rw [if_neg hl] at h
  by_cases hu : (hdU raw || decide ((hdF raw).ty = 33024) || decide ((hdF raw).ty < 1536)) = true
  · rw [if_pos hu] at h; omega
  simp only [Bool.or_eq_true, decide_eq_true_eq, not_or] at hu
  obtain ⟨⟨hU, hT⟩, hY⟩ := hu
  obtain ⟨x0, x1, x2, x3, x4, x5, x6, x7, x8, x9, x10, x11, x12, x13, x14, x15, x16, x17, r, rfl⟩ := uncons18 (L := raw) (by omega)
  have key : ∀ x ∈ [x0, x1, x2, x3, x4, x5, x6, x7, x8, x9, x10, x11, x12, x13, x14, x15, x16, x17], 0 ≤ x ∧ x ≤ 255 := fun x hx => hB x (by
    simp only [List.mem_cons, List.not_mem_nil, or_false] at hx ⊢
    rcases hx with h|h|h|h|h|h|h|h|h|h|h|h|h|h|h|h|h|h <;> simp [h])
  obtain ⟨a12, b12⟩ := key x12 (by simp)
  obtain ⟨a13, b13⟩ := key x13 (by simp)
  obtain ⟨a14, b14⟩ := key x14 (by simp)
  obtain ⟨a15, b15⟩ := key x15 (by simp)
  obtain ⟨a16, b16⟩ := key x16 (by simp)
  obtain ⟨a17, b17⟩ := key x17 (by simp)
  clear key
  have w12 : w16 (x0 :: x1 :: x2 :: x3 :: x4 :: x5 :: x6 :: x7 :: x8 :: x9 :: x10 :: x11 :: x12 :: x13 :: x14 :: x15 :: x16 :: x17 :: r) 12 = 256 * x12 + x13 := rfl
  have w14 : w16 (x0 :: x1 :: x2 :: x3 :: x4 :: x5 :: x6 :: x7 :: x8 :: x9 :: x10 :: x11 :: x12 :: x13 :: x14 :: x15 :: x16 :: x17 :: r) 14 = 256 * x14 + x15 := rfl
  have wz16 : w16 (x0 :: x1 :: x2 :: x3 :: x4 :: x5 :: x6 :: x7 :: x8 :: x9 :: x10 :: x11 :: x12 :: x13 :: x14 :: x15 :: x16 :: x17 :: r) 16 = 256 * x16 + x17 := rfl
  have m0 : macAt (x0 :: x1 :: x2 :: x3 :: x4 :: x5 :: x6 :: x7 :: x8 :: x9 :: x10 :: x11 :: x12 :: x13 :: x14 :: x15 :: x16 :: x17 :: r) 0 = ⟨x0, x1, x2, x3, x4, x5⟩ := rfl
  have m6 : macAt (x0 :: x1 :: x2 :: x3 :: x4 :: x5 :: x6 :: x7 :: x8 :: x9 :: x10 :: x11 :: x12 :: x13 :: x14 :: x15 :: x16 :: x17 :: r) 6 = ⟨x6, x7, x8, x9, x10, x11⟩ := rfl
  by_cases ht : 256 * x12 + x13 = 33024
  · have e : hdF (x0 :: x1 :: x2 :: x3 :: x4 :: x5 :: x6 :: x7 :: x8 :: x9 :: x10 :: x11 :: x12 :: x13 :: x14 :: x15 :: x16 :: x17 :: r) = ⟨⟨x0, x1, x2, x3, x4, x5⟩, ⟨x6, x7, x8, x9, x10, x11⟩, true, (256 * x14 + x15) % 4096, (256 * x14 + x15) / 8192, 256 * x16 + x17⟩ := by rw [hdF, w12, if_pos ht, w14, wz16, m0, m6]
    have eU : hdU (x0 :: x1 :: x2 :: x3 :: x4 :: x5 :: x6 :: x7 :: x8 :: x9 :: x10 :: x11 :: x12 :: x13 :: x14 :: x15 :: x16 :: x17 :: r) = decide ((256 * x14 + x15) / 4096 % 2 = 1) := by rw [hdU, w12, w14, decide_eq_true ht, Bool.true_and]
    rw [eU] at hU
    simp only [decide_eq_true_eq] at hU
    rw [e] at hT hY hl ⊢
    simp only [hsz, if_true] at hT hY hl ⊢
    have hm : mbB ⟨⟨x0, x1, x2, x3, x4, x5⟩, ⟨x6, x7, x8, x9, x10, x11⟩, true, (256 * x14 + x15) % 4096, (256 * x14 + x15) / 8192, 256 * x16 + x17⟩ = true := by
      unfold mbB wiB
      simp only [if_true, Bool.and_eq_true, decide_eq_true_eq, Bool.not_eq_true', decide_eq_false_iff_not]
      omega
    have E : ∀ k, k ≤ 256 → enE ⟨⟨x0, x1, x2, x3, x4, x5⟩, ⟨x6, x7, x8, x9, x10, x11⟩, true, (256 * x14 + x15) % 4096, (256 * x14 + x15) / 8192, 256 * x16 + x17⟩ k = 0 := fun k hk => by
      unfold enE
      rw [hm, if_neg (by simp), if_neg (by omega)]
    have E0 := E ((x0 :: x1 :: x2 :: x3 :: x4 :: x5 :: x6 :: x7 :: x8 :: x9 :: x10 :: x11 :: x12 :: x13 :: x14 :: x15 :: x16 :: x17 :: r).drop 18).length (by rw [List.length_drop]; omega)
    refine ⟨E0, ?_⟩
    rw [enB_yes E0, enH, enT, if_pos rfl, put16_of (x := x16) (y := x17) rfl a16 b16 a17 b17, put16_of (n := 33024) (x := x12) (y := x13) ht.symm a12 b12 a13 b13, put16_of (x := x14) (y := x15) (by show (256 * x14 + x15) / 8192 * 8192 + (256 * x14 + x15) % 4096 = 256 * x14 + x15; omega) a14 b14 a15 b15]
    have e2 : mL ⟨x0, x1, x2, x3, x4, x5⟩ ++ mL ⟨x6, x7, x8, x9, x10, x11⟩ ++ ([x12, x13] ++ [x14, x15]) ++ [x16, x17] ++ (x0 :: x1 :: x2 :: x3 :: x4 :: x5 :: x6 :: x7 :: x8 :: x9 :: x10 :: x11 :: x12 :: x13 :: x14 :: x15 :: x16 :: x17 :: r).drop 18 = x0 :: x1 :: x2 :: x3 :: x4 :: x5 :: x6 :: x7 :: x8 :: x9 :: x10 :: x11 :: x12 :: x13 :: x14 :: x15 :: x16 :: x17 :: r := rfl
    show pad (mL ⟨x0, x1, x2, x3, x4, x5⟩ ++ mL ⟨x6, x7, x8, x9, x10, x11⟩ ++ ([x12, x13] ++ [x14, x15]) ++ [x16, x17] ++ (x0 :: x1 :: x2 :: x3 :: x4 :: x5 :: x6 :: x7 :: x8 :: x9 :: x10 :: x11 :: x12 :: x13 :: x14 :: x15 :: x16 :: x17 :: r).drop 18) = _
    rw [e2, pad, show 60 - (x0 :: x1 :: x2 :: x3 :: x4 :: x5 :: x6 :: x7 :: x8 :: x9 :: x10 :: x11 :: x12 :: x13 :: x14 :: x15 :: x16 :: x17 :: r).length = 0 by omega]
    simp
  · have e : hdF (x0 :: x1 :: x2 :: x3 :: x4 :: x5 :: x6 :: x7 :: x8 :: x9 :: x10 :: x11 :: x12 :: x13 :: x14 :: x15 :: x16 :: x17 :: r) = ⟨⟨x0, x1, x2, x3, x4, x5⟩, ⟨x6, x7, x8, x9, x10, x11⟩, false, 0, 0, 256 * x12 + x13⟩ := by rw [hdF, w12, if_neg ht, m0, m6]
    rw [e] at hT hY hl ⊢
    simp only [hsz, Bool.false_eq_true, if_false] at hT hY hl ⊢
    have hm : mbB ⟨⟨x0, x1, x2, x3, x4, x5⟩, ⟨x6, x7, x8, x9, x10, x11⟩, false, 0, 0, 256 * x12 + x13⟩ = true := by
      unfold mbB wiB
      simp only [Bool.false_eq_true, if_false, Bool.and_eq_true, decide_eq_true_eq, Bool.not_eq_true', decide_eq_false_iff_not]
      omega
    have E : ∀ k, k ≤ 256 → enE ⟨⟨x0, x1, x2, x3, x4, x5⟩, ⟨x6, x7, x8, x9, x10, x11⟩, false, 0, 0, 256 * x12 + x13⟩ k = 0 := fun k hk => by
      unfold enE
      rw [hm, if_neg (by simp), if_neg (by omega)]
    have E0 := E ((x0 :: x1 :: x2 :: x3 :: x4 :: x5 :: x6 :: x7 :: x8 :: x9 :: x10 :: x11 :: x12 :: x13 :: x14 :: x15 :: x16 :: x17 :: r).drop 14).length (by rw [List.length_drop]; omega)
    refine ⟨E0, ?_⟩
    rw [enB_yes E0, enH, enT, if_neg (by simp), put16_of (x := x12) (y := x13) rfl a12 b12 a13 b13]
    have e2 : mL ⟨x0, x1, x2, x3, x4, x5⟩ ++ mL ⟨x6, x7, x8, x9, x10, x11⟩ ++ [] ++ [x12, x13] ++ (x0 :: x1 :: x2 :: x3 :: x4 :: x5 :: x6 :: x7 :: x8 :: x9 :: x10 :: x11 :: x12 :: x13 :: x14 :: x15 :: x16 :: x17 :: r).drop 14 = x0 :: x1 :: x2 :: x3 :: x4 :: x5 :: x6 :: x7 :: x8 :: x9 :: x10 :: x11 :: x12 :: x13 :: x14 :: x15 :: x16 :: x17 :: r := rfl
    show pad (mL ⟨x0, x1, x2, x3, x4, x5⟩ ++ mL ⟨x6, x7, x8, x9, x10, x11⟩ ++ [] ++ [x12, x13] ++ (x0 :: x1 :: x2 :: x3 :: x4 :: x5 :: x6 :: x7 :: x8 :: x9 :: x10 :: x11 :: x12 :: x13 :: x14 :: x15 :: x16 :: x17 :: r).drop 14) = _
    rw [e2, pad, show 60 - (x0 :: x1 :: x2 :: x3 :: x4 :: x5 :: x6 :: x7 :: x8 :: x9 :: x10 :: x11 :: x12 :: x13 :: x14 :: x15 :: x16 :: x17 :: r).length = 0 by omega]
    simp

/-- what was encoded is decoded as it was, but for noughts behind it -/
theorem back_frame {f : Fr} {bs : List Int} (hf : f.Ok) (hB : Bytes bs) (hm : mbB f = true) (hn : bs.length ≤ 256) :
    Bytes (pad (enH f ++ bs)) ∧ deE (pad (enH f ++ bs)) = 0 ∧ deF (pad (enH f ++ bs)) = f ∧ deB (pad (enH f ++ bs)) = bs ++ List.replicate (60 - (enH f ++ bs).length) 0 := by
  obtain ⟨⟨d0, d1, d2, d3, d4, d5⟩, ⟨s0, s1, s2, s3, s4, s5⟩, t, v, p, y⟩ := f
  obtain ⟨⟨hd0, hd1, hd2, hd3, hd4, hd5⟩, ⟨hs0, hs1, hs2, hs3, hs4, hs5⟩⟩ := hf
  simp only at hd0 hd1 hd2 hd3 hd4 hd5 hs0 hs1 hs2 hs3 hs4 hs5
  have bp : ∀ n : Int, ∀ x ∈ put16 n, 0 ≤ x ∧ x ≤ 255 := fun n x hx => by
    simp only [put16, List.mem_cons, List.not_mem_nil, or_false] at hx
    rcases hx with rfl | rfl <;> omega
  have bm : ∀ x ∈ mL ⟨d0, d1, d2, d3, d4, d5⟩ ++ mL ⟨s0, s1, s2, s3, s4, s5⟩, 0 ≤ x ∧ x ≤ 255 := fun x hx => by
    simp only [mL, List.cons_append, List.nil_append, List.mem_cons, List.not_mem_nil, or_false] at hx
    rcases hx with h|h|h|h|h|h|h|h|h|h|h|h <;> rw [h] <;> assumption
  have bt : ∀ x ∈ enT ⟨⟨d0, d1, d2, d3, d4, d5⟩, ⟨s0, s1, s2, s3, s4, s5⟩, t, v, p, y⟩, 0 ≤ x ∧ x ≤ 255 := fun x hx => by
    unfold enT at hx
    split at hx
    · rcases List.mem_append.1 hx with h | h
      · exact bp _ x h
      · exact bp _ x h
    · cases hx
  have bX : Bytes (pad (enH ⟨⟨d0, d1, d2, d3, d4, d5⟩, ⟨s0, s1, s2, s3, s4, s5⟩, t, v, p, y⟩ ++ bs)) := by
    unfold pad
    refine Bytes.append (Bytes.append ?_ hB) (fun x hx => by rw [List.mem_replicate] at hx; omega)
    unfold enH
    exact Bytes.append (Bytes.append bm bt) (bp _)
  refine ⟨bX, ?_⟩
  have hlen := enH_len ⟨⟨d0, d1, d2, d3, d4, d5⟩, ⟨s0, s1, s2, s3, s4, s5⟩, t, v, p, y⟩
  have hpl := pad_len (enH ⟨⟨d0, d1, d2, d3, d4, d5⟩, ⟨s0, s1, s2, s3, s4, s5⟩, t, v, p, y⟩ ++ bs)
  rw [List.length_append, hlen] at hpl
  unfold mbB wiB at hm
  simp only [Bool.and_eq_true, decide_eq_true_eq, Bool.not_eq_true', decide_eq_false_iff_not] at hm
  obtain ⟨⟨⟨⟨hy1, hy2⟩, hy3⟩, hv1, hv2⟩, hp1, hp2⟩ := hm
  clear bX bt bm bp
  cases t
  · simp only [Bool.false_eq_true, if_false] at hv2 hp2
    obtain rfl : v = 0 := by omega
    obtain rfl : p = 0 := by omega
    obtain ⟨T, hT⟩ : ∃ T, bs ++ List.replicate (60 - (enH ⟨⟨d0, d1, d2, d3, d4, d5⟩, ⟨s0, s1, s2, s3, s4, s5⟩, false, 0, 0, y⟩ ++ bs).length) 0 = T := ⟨_, rfl⟩
    have eX : pad (enH ⟨⟨d0, d1, d2, d3, d4, d5⟩, ⟨s0, s1, s2, s3, s4, s5⟩, false, 0, 0, y⟩ ++ bs) = d0 :: d1 :: d2 :: d3 :: d4 :: d5 :: s0 :: s1 :: s2 :: s3 :: s4 :: s5 :: (y / 256 % 256) :: (y % 256) :: T := by
      rw [← hT]; unfold pad; rw [List.append_assoc]; rfl
    rw [hT]
    rw [eX] at hpl ⊢
    have w12 : w16 (d0 :: d1 :: d2 :: d3 :: d4 :: d5 :: s0 :: s1 :: s2 :: s3 :: s4 :: s5 :: (y / 256 % 256) :: (y % 256) :: T) 12 = 256 * (y / 256 % 256) + y % 256 := rfl
    have e12 : 256 * (y / 256 % 256) + y % 256 = y := by omega
    rw [e12] at w12
    have e : hdF (d0 :: d1 :: d2 :: d3 :: d4 :: d5 :: s0 :: s1 :: s2 :: s3 :: s4 :: s5 :: (y / 256 % 256) :: (y % 256) :: T) = ⟨⟨d0, d1, d2, d3, d4, d5⟩, ⟨s0, s1, s2, s3, s4, s5⟩, false, 0, 0, y⟩ := by rw [hdF, w12, if_neg hy3]; rfl
    have eU : hdU (d0 :: d1 :: d2 :: d3 :: d4 :: d5 :: s0 :: s1 :: s2 :: s3 :: s4 :: s5 :: (y / 256 % 256) :: (y % 256) :: T) = false := by rw [hdU, w12, decide_eq_false hy3]; rfl
    have E : deE (d0 :: d1 :: d2 :: d3 :: d4 :: d5 :: s0 :: s1 :: s2 :: s3 :: s4 :: s5 :: (y / 256 % 256) :: (y % 256) :: T) = 0 := by
      unfold deE
      simp only [hsz, Bool.false_eq_true, if_false] at hpl
      rw [e, eU, hpl, if_neg (by omega), if_neg (by simp only [hsz, Bool.false_eq_true, if_false]; omega), if_neg (by simp [hy3]; omega)]
    refine ⟨E, ?_, ?_⟩
    · rw [deF, if_pos E, e]
    · rw [deB, if_pos E, e]; rfl
  · simp only [if_true] at hv2 hp2
    obtain ⟨T, hT⟩ : ∃ T, bs ++ List.replicate (60 - (enH ⟨⟨d0, d1, d2, d3, d4, d5⟩, ⟨s0, s1, s2, s3, s4, s5⟩, true, v, p, y⟩ ++ bs).length) 0 = T := ⟨_, rfl⟩
    have eX : pad (enH ⟨⟨d0, d1, d2, d3, d4, d5⟩, ⟨s0, s1, s2, s3, s4, s5⟩, true, v, p, y⟩ ++ bs) = d0 :: d1 :: d2 :: d3 :: d4 :: d5 :: s0 :: s1 :: s2 :: s3 :: s4 :: s5 :: 129 :: 0 :: ((p * 8192 + v) / 256 % 256) :: ((p * 8192 + v) % 256) :: (y / 256 % 256) :: (y % 256) :: T := by
      rw [← hT]; unfold pad; rw [List.append_assoc]; rfl
    rw [hT]
    rw [eX] at hpl ⊢
    obtain ⟨q1, hq1⟩ : ∃ q, (p * 8192 + v) / 256 % 256 = q := ⟨_, rfl⟩
    obtain ⟨q2, hq2⟩ : ∃ q, (p * 8192 + v) % 256 = q := ⟨_, rfl⟩
    obtain ⟨q3, hq3⟩ : ∃ q, y / 256 % 256 = q := ⟨_, rfl⟩
    obtain ⟨q4, hq4⟩ : ∃ q, y % 256 = q := ⟨_, rfl⟩
    rw [hq1, hq2, hq3, hq4] at hpl ⊢
    have w12 : w16 (d0 :: d1 :: d2 :: d3 :: d4 :: d5 :: s0 :: s1 :: s2 :: s3 :: s4 :: s5 :: 129 :: 0 :: q1 :: q2 :: q3 :: q4 :: T) 12 = 33024 := rfl
    have w14 : w16 (d0 :: d1 :: d2 :: d3 :: d4 :: d5 :: s0 :: s1 :: s2 :: s3 :: s4 :: s5 :: 129 :: 0 :: q1 :: q2 :: q3 :: q4 :: T) 14 = 256 * q1 + q2 := rfl
    have wz16 : w16 (d0 :: d1 :: d2 :: d3 :: d4 :: d5 :: s0 :: s1 :: s2 :: s3 :: s4 :: s5 :: 129 :: 0 :: q1 :: q2 :: q3 :: q4 :: T) 16 = 256 * q3 + q4 := rfl
    rw [show 256 * q1 + q2 = p * 8192 + v by omega] at w14
    rw [show 256 * q3 + q4 = y by omega] at wz16
    have e : hdF (d0 :: d1 :: d2 :: d3 :: d4 :: d5 :: s0 :: s1 :: s2 :: s3 :: s4 :: s5 :: 129 :: 0 :: q1 :: q2 :: q3 :: q4 :: T) = ⟨⟨d0, d1, d2, d3, d4, d5⟩, ⟨s0, s1, s2, s3, s4, s5⟩, true, v, p, y⟩ := by
      rw [hdF, w12, if_pos rfl, w14, wz16, show (p * 8192 + v) % 4096 = v by omega, show (p * 8192 + v) / 8192 = p by omega]; rfl
    have eU : hdU (d0 :: d1 :: d2 :: d3 :: d4 :: d5 :: s0 :: s1 :: s2 :: s3 :: s4 :: s5 :: 129 :: 0 :: q1 :: q2 :: q3 :: q4 :: T) = false := by
      rw [hdU, w14, show (p * 8192 + v) / 4096 % 2 = 0 by omega]; simp
    have E : deE (d0 :: d1 :: d2 :: d3 :: d4 :: d5 :: s0 :: s1 :: s2 :: s3 :: s4 :: s5 :: 129 :: 0 :: q1 :: q2 :: q3 :: q4 :: T) = 0 := by
      unfold deE
      simp only [hsz, if_true] at hpl
      rw [e, eU, hpl, if_neg (by omega), if_neg (by simp only [hsz, if_true]; omega), if_neg (by simp [hy3]; omega)]
    refine ⟨E, ?_, ?_⟩
    · rw [deF, if_pos E, e]
    · rw [deB, if_pos E, e]; rfl

end Go.Proofs.Ytipebfaappangaa
