
/-
  Package icmp: Encode.
-/
import Derived.Test.YteiendigcaedhaaT1
namespace Go.Proofs.Yteiendigcaedhaa
open Go.RowKit Go.Shelf

theorem aggC (w : World) : (isAgg 24).run Try.prog w = .ok true w := by kernel_rfl
theorem sizC (w : World) : (Go.sizeOf 24).run Try.prog w = .ok 6 w := by kernel_rfl
/-- behind the sum; the whole message -/
def rsL (t i s u : Int) (ds : List Int) : List Int := nmL t i s u ++ ds
def icB (t c i s u : Int) (ds : List Int) : List Int := [t, c] ++ (put16 (csum ([t, c] ++ rsL t i s u ds)) ++ rsL t i s u ds)
/-- Encode's error, and its bytes -/
def ieE (t c i s u : Int) (n : Nat) : Int := if 1016 < n then 2 else if mbI t c i s u = false then 1 else 0
def ieB (t c i s u : Int) (ds : List Int) : List Int := if ieE t c i s u ds.length = 0 then icB t c i s u ds else []
theorem upB_iff {m n : Int} : upB m n = true ↔ 0 ≤ n ∧ n ≤ m := by unfold upB; simp
theorem ech_iff {t : Int} : ech t = true ↔ t = 0 ∨ t = 8 := by unfold ech; simp
/-- what holds of one that may be -/
theorem mbI_true {t c i s u : Int} (h : mbI t c i s u = true) : (0 ≤ t ∧ t ≤ 255) ∧ (0 ≤ c ∧ c ≤ 255) ∧ (0 ≤ i ∧ i ≤ 65535) ∧ (0 ≤ s ∧ s ≤ 65535) ∧ (0 ≤ u ∧ u ≤ 65535) ∧ (ech t = true → u = 0) ∧ (ech t = false → i = 0 ∧ s = 0) := by
  unfold mbI at h
  cases he : ech t with
  | true =>
    rw [if_pos he] at h
    simp only [Bool.and_eq_true, upB_iff] at h
    have := ech_iff.1 he
    refine ⟨by omega, by omega, by omega, by omega, by omega, fun _ => by omega, fun e => by cases e⟩
  | false =>
    rw [if_neg (by rw [he]; decide)] at h
    by_cases h3 : t = 3
    · rw [if_pos h3] at h
      split at h <;> simp only [Bool.and_eq_true, upB_iff] at h <;> exact ⟨by omega, by omega, by omega, by omega, by omega, fun e => (by cases e), fun _ => by omega⟩
    · rw [if_neg h3] at h
      by_cases h11 : t = 11
      · rw [if_pos h11] at h
        simp only [Bool.and_eq_true, upB_iff] at h
        exact ⟨by omega, by omega, by omega, by omega, by omega, fun e => (by cases e), fun _ => by omega⟩
      · rw [if_neg h11] at h; cases h
theorem nmL_len (t i s u : Int) : (nmL t i s u).length = 4 := rfl
theorem nmL_bytes (t i s u : Int) : Bytes (nmL t i s u) := (put16_bytes _).append (put16_bytes _)
theorem rsL_len (t i s u : Int) (ds : List Int) : (rsL t i s u ds).length = 4 + ds.length := by simp [rsL, nmL_len]
theorem rsL_bytes (t i s u : Int) {ds : List Int} (h : Bytes ds) : Bytes (rsL t i s u ds) := (nmL_bytes t i s u).append h
theorem two_bytes {t c : Int} (h0 : 0 ≤ t ∧ t ≤ 255) (h1 : 0 ≤ c ∧ c ≤ 255) : Bytes [t, c] := Bytes.cons h0.1 h0.2 (Bytes.cons h1.1 h1.2 Bytes.nil)
theorem icB_len (t c i s u : Int) (ds : List Int) : (icB t c i s u ds).length = 8 + ds.length := by simp [icB, rsL_len, put16]; omega
theorem icB_bytes {t c i s u : Int} {ds : List Int} (h : mbI t c i s u = true) (hd : Bytes ds) : Bytes (icB t c i s u ds) :=
  have k := mbI_true h
  (two_bytes k.1 k.2.1).append ((put16_bytes _).append (rsL_bytes t i s u hd))
theorem append_own {B : Nat} {W : World} {v tv : Value} {xs ys : List Int} (hx : OwnB B W v xs) (hy : IsB W.heap.size W tv ys) (hl : xs.length + ys.length ≤ 140737488355328) (hm : xs.length ≤ maxLen) :
    ∃ v' w', (Builtin.append_ #[22, 22] 22 #[v, tv]).run Try.prog W = .ok v' w' ∧ Gro B w' v' (xs ++ ys) ∧ Below B W w' := by
  obtain ⟨g, e, h1, h2⟩ := hx
  have hg : g < W.heap.size := (Array.getElem?_eq_some_iff.1 h2).1
  exact append_runB ((show OwnB B W v xs from ⟨g, e, h1, h2⟩).gro hm) hy (by omega) hl
set_option maxRecDepth 100000 in
set_option maxHeartbeats 4000000 in
theorem icEnc_any (t c i s u : Int) (da : Option Addr) (dc : Nat) (ds : List Int) (w : World) (hd : IsB w.heap.size w (.slice da ds.length dc) ds) (hB : Bytes ds) :
    Calls Try.prog 10 #[.agg #[.int .i64 t, .int .i64 c, .int .i64 i, .int .i64 s, .int .i64 u, .slice da ds.length dc]] w fun e w' => ∃ v, e = .returned (.tuple #[v, .int .i64 (ieE t c i s u ds.length)]) ∧ Gro w.heap.size w' v (ieB t c i s u ds) ∧ Below w.heap.size w w' := by
  obtain ⟨dn, hdn⟩ : ∃ dn, dn = ds.length := ⟨_, rfl⟩
  rw [← hdn] at hd ⊢
  obtain ⟨q, w1, hq, hw1, b1, l1, hc, _⟩ := boxI w t c i s u (.slice da dn dc)
  obtain ⟨c0, c1, c2, c3, c4, c5⟩ := imL_cells hc
  have HB := hide b1
  have HD := hide (hd.later b1)
  have HC := hide hc
  have HDN := hide hdn
  have HBY := hide hB
  unfold ieB
  rw [← hdn]
  obtain ⟨E, hE⟩ : ∃ E, E = ieE t c i s u dn := ⟨_, rfl⟩
  rw [← hE]
  by_cases h1 : 1016 < dn
  · have e : E = 2 := by rw [hE, ieE, if_pos h1]
    subst e
    have z : (1016 : Int) < (dn : Int) := by omega
    clear b1 hc hd hB hdn hE h1
    go_enter Try.func10, Try.ntmps10
    go_wp2
    refine bodyPost_ret (v := .tuple #[.slice none 0 0, .int .i64 2]) (by simp [results, go_sem]) rfl ?_
    exact ⟨_, rfl, Gro.nil _ _, by rw [← hq]; exact HB.out⟩
  have z : ¬ (1016 : Int) < (dn : Int) := by omega
  have M := icMay_any t c i s u da dn dc w1
  cases hm : mbI t c i s u with
  | false =>
    have e : E = 1 := by rw [hE, ieE, if_neg h1, if_pos hm]
    subst e
    rw [hm] at M
    have HM := hide M
    clear b1 hc hd hB hdn hE h1 hm M
    go_enter Try.func10, Try.ntmps10
    go_wp2_with fail
    clear hq hw1
    refine HM.out.mono ?_
    rintro _ w2 ⟨rfl, b2⟩
    have B2 := hide (later HB.out b2)
    clear b2 HM
    go_wp2
    refine bodyPost_ret (v := .tuple #[.slice none 0 0, .int .i64 1]) (by simp [results, go_sem]) rfl ?_
    exact ⟨_, rfl, Gro.nil _ _, B2.out⟩
  | true =>
    have e : E = 0 := by rw [hE, ieE, if_neg h1, if_neg (by rw [hm]; decide)]
    subst e
    rw [hm] at M
    have HM := hide M
    obtain ⟨kt, kc, _⟩ := mbI_true hm
    have wt : IntKind.u8.wrap t = t := by rw [IntKind.wrap_u8]; omega
    have wc : IntKind.u8.wrap c = c := by rw [IntKind.wrap_u8]; omega
    have B2c : Hid (Bytes [t, c]) := two_bytes kt kc
    clear b1 hc hd hB hdn hE hm M kt kc
    go_enter Try.func10, Try.ntmps10
    go_wp2_with fail
    clear hq hw1
    refine HM.out.mono ?_
    rintro _ w2 ⟨rfl, b2⟩
    have B2 := hide (later HB.out b2)
    have d2 := HD.out.later b2
    have cc2 := HC.out.later l1 b2
    have l2 : q < w2.heap.size := Nat.lt_of_lt_of_le l1 b2.size
    obtain ⟨x0, x1, _⟩ := imL_cells cc2
    -- ahead
    obtain ⟨w3, hw3⟩ : ∃ w3, w3 = w2.alloc (.cells #[.int .u8 t, .int .u8 c] 5) := ⟨_, rfl⟩
    have b3 : Below w2.heap.size w2 w3 := by rw [hw3]; exact (Below.refl _ _).alloc (Nat.le_refl _) _
    have a3 : IsB w3.heap.size w3 (.slice (some ⟨w2.heap.size, 0, none⟩) 2 2) [t, c] := by
      rw [hw3, World.size_alloc]; exact IsB_new [t, c] (by omega)
    obtain ⟨g, hg⟩ : ∃ g, g = w2.heap.size := ⟨_, rfl⟩
    rw [← hg] at a3
    have A3 := hide a3
    have B3 := hide (later B2.out b3)
    have D3 := hide (d2.later b3)
    have CC3 := hide (cc2.later l2 b3)
    have l3 : q < w3.heap.size := Nat.lt_of_lt_of_le l2 b3.size
    have hw3' := hw3.symm
    have hg' := hg.symm
    clear b2 HM d2 cc2 hw3 hg a3 b3 HC HD
    go_upto_region 6 with fail
    clear hw3' hg' x0 x1
    have bd := later_drew w3
    have S3 := CC3.out.later l3 bd
    refine wp_region_held (S := fun W => CellsAt W q 0 (imL t c i s u (.slice da dn dc))) (by kernel_rfl) ?_
    refine takeD (i := 0) (v := .agg (imL t c i s u (.slice da dn dc)).toArray) 22 rfl rfl (by kernel_rfl) (by kernel_rfl) (by kernel_rfl) (fun _ _ _ h => h) (.inl ⟨by rfl, fun W hW => exec_loadA 24 6 aggC sizC _ rfl q 0 rfl (imL t c i s u (.slice da dn dc)) rfl (hW)⟩) (S3) ?_
    try simp only [Act.put, List.setIfInBounds_toArray, List.set_cons_zero, List.set_cons_succ]
    refine takeD (i := 2) (v := .pointer (some ⟨q, 5, none⟩)) 24 rfl rfl (by kernel_rfl) (by kernel_rfl) (by kernel_rfl) (fun _ _ _ h => h) (.inl ⟨by rfl, fun W hW => exec_fieldO 24 _ 5 q 0 5 rfl rfl (fun w => by kernel_rfl)⟩) (S3) ?_
    try simp only [Act.put, List.setIfInBounds_toArray, List.set_cons_zero, List.set_cons_succ]
    refine takeD (i := 3) (v := .slice da dn dc) 25 rfl rfl (by kernel_rfl) (by kernel_rfl) (by kernel_rfl) (fun _ _ _ h => h) (.inl ⟨by rfl, fun W hW => exec_load1 22 oneS _ rfl q 5 rfl (.slice da dn dc) ((imL_cells hW).2.2.2.2.2)⟩) (S3) ?_
    try simp only [Act.put, List.setIfInBounds_toArray, List.set_cons_zero, List.set_cons_succ]
    refine callD 1 23 (by kernel_rfl) rfl rfl (by rfl) 32 #[.agg #[.int .i64 t, .int .i64 c, .int .i64 i, .int .i64 s, .int .i64 u, .slice da dn dc]] (exec_callF _ _ _ _ rfl (map1 rfl) (enters_of Try.func32 (by kernel_rfl) rfl)) _ ((icNum_any t c i s u da dn dc w3.drew).mono (by rintro _ W' ⟨v, rfl, h⟩; exact ⟨v, rfl, h⟩)) ?_
    rintro v4 w4 ⟨o4, b4⟩
    have l3d : q < w3.drew.heap.size := Nat.lt_of_lt_of_le l3 bd.size
    have b34 := later bd b4
    have S4 := CC3.out.later l3 b34
    refine ⟨S4, ?_⟩
    simp only [Act.put, List.setIfInBounds_toArray, List.set_cons_zero, List.set_cons_succ]
    obtain ⟨v5, w5, hrun, g5, b5⟩ := append_own o4 ((D3.out.later b34)) (by rw [nmL_len, ← HDN.out]; omega) (by rw [nmL_len]; decide)
    have b35 : Below w3.heap.size w3 w5 := b34.trans (b5.mono bd.size)
    have S5 := CC3.out.later l3 b35
    refine nextD (w' := w5) 4 26 (v5) (by kernel_rfl) rfl rfl (by rfl) (exec_app _ _ 22 22 rfl v4 (.slice da dn dc) rfl rfl 22 rfl hrun) (S5) ?_
    try simp only [Act.put, List.setIfInBounds_toArray, List.set_cons_zero, List.set_cons_succ]
    refine takeD (i := 5) (v := v5) 5 rfl rfl (by kernel_rfl) (by kernel_rfl) (by kernel_rfl) (fun _ _ _ h => h) (.inl ⟨by rfl, fun W hW => exec_assign _ _ rfl rfl⟩) (S5) ?_
    try simp only [Act.put, List.setIfInBounds_toArray, List.set_cons_zero, List.set_cons_succ]
    refine wpAnyH_done (by kernel_rfl) ?_ _
    have G5 : Hid (Gro w3.heap.size w5 v5 (rsL t i s u ds)) := g5.low bd.size
    have I5 := hide g5.isB
    have A5 := hide (A3.out.later b35)
    have B5 := hide (later B3.out b35)
    obtain ⟨a5, k5, rfl, hle⟩ := g5.isB.shape
    obtain ⟨n5, hn5⟩ : ∃ n5, n5 = (nmL t i s u ++ ds).length := ⟨_, rfl⟩
    rw [← hn5] at G5 I5 ⊢
    have HN5 : Hid (n5 = 4 + dn) := by rw [hn5, List.length_append, nmL_len, HDN.out]; exact rfl
    have S2 := hide (Sum2 (.slice (some ⟨g, 0, none⟩) 2 2) (.slice a5 n5 k5) [t, c] (rsL t i s u ds) w5 A5.out I5.out B2c.out (rsL_bytes t i s u HBY.out) (by rw [rsL_len, ← HDN.out]; simp; omega))
    have B3s := hide B3.out.size
    clear hrun g5 b5 o4 b4 b34 b35 S3 S4 S5 bd l3d hn5 hle
    go_wp2_with fail
    refine S2.out.mono ?_
    rintro _ w6 ⟨rfl, b6⟩
    have A6 := hide (A5.out.later b6)
    have G6 := hide (G5.out.later b6)
    have P6 := hide (Put16_any _ [t, c] (csum ([t, c] ++ rsL t i s u ds)) w6 A6.out (by simp))
    have B6 := hide (later B5.out b6)
    clear b6 S2 G5 I5 A5
    go_wp2_with fail
    refine P6.out.mono ?_
    rintro _ w7 ⟨v7, rfl, o7, b7⟩
    have G7 := hide (G6.out.later b7)
    have B7 := hide (later B6.out b7)
    have O7 := hide (o7.gro (by simp [put16]; decide))
    obtain ⟨a7, k7, e7, _⟩ := o7.isB.shape
    subst e7
    have I7 := hide G7.out.isB
    have L7 : Hid (([t, c] ++ put16 (csum ([t, c] ++ rsL t i s u ds))).length = 4) := rfl
    have L8 : Hid (([t, c] ++ put16 (csum ([t, c] ++ rsL t i s u ds))).length + (rsL t i s u ds).length ≤ 140737488355328) := by unfold Hid; rw [L7.out, rsL_len, ← HDN.out]; omega
    obtain ⟨X7, hX7⟩ : ∃ X7, X7 = [t, c] ++ put16 (csum ([t, c] ++ rsL t i s u ds)) := ⟨_, rfl⟩
    have EX : Hid (X7 ++ rsL t i s u ds = icB t c i s u ds) := by unfold Hid; rw [hX7, icB, List.append_assoc]
    rw [← hX7] at O7 L7 L8 ⊢
    rw [L7.out] at O7 ⊢
    obtain ⟨R7, hR7⟩ : ∃ R7, R7 = rsL t i s u ds := ⟨_, rfl⟩
    rw [← hR7] at EX I7 L8
    have Z7 : Hid (w6.heap.size ≤ w7.heap.size) := b7.size
    have Z6 : Hid (w.heap.size ≤ w6.heap.size) := B6.out.size
    obtain ⟨M7, hM7⟩ : ∃ M7, M7 = icB t c i s u ds := ⟨_, rfl⟩
    rw [← hM7] at EX
    have HM7 := hide hM7
    clear o7 b7 G6 G7 A6 P6 hX7 hR7 hM7
    go_wp2_with (at_builtin; refine wpList_growB rfl (.tmp 32) (.tmp 33) rfl rfl w6.heap.size (.slice a7 4 k7) _ X7 R7 rfl rfl O7.out I7.out Z7.out L8.out M7 EX.out ?_)
    intro a8 k8 w8 _ g8 b8
    have G8 : Hid (Gro w.heap.size w8 (.slice a8 M7.length k8) M7) := g8.low Z6.out
    have B8 : Hid (Below w.heap.size w w8) := B7.out.trans (b8.mono Z6.out)
    clear g8 b8
    go_wp2
    refine bodyPost_ret (v := .tuple #[.slice a8 M7.length k8, .int .i64 0]) (by simp [results, go_sem]) rfl ?_
    exact ⟨_, rfl, (by rw [← HM7.out]; exact G8.out), B8.out⟩
end Go.Proofs.Yteiendigcaedhaa
