
/-
  Package ip4: Encode, the walk.
-/
import Derived.Test.YtiglejmmdghmgaaI9
namespace Go.Proofs.Ytiglejmmdghmgaa
open Go.RowKit Go.Shelf

/-- what Encode tells -/
def EnE (n0 : Nat) (w : World) (p : Pk) (b : List Int) (e : Ending) (w' : World) : Prop :=
  Below n0 w w' ∧ ((enE p b.length = 0 ∧ ∃ v, e = .returned (.tuple #[v, .int .i64 0]) ∧ Gro n0 w' v (enB p b)) ∨ (enE p b.length ≠ 0 ∧ e = .returned (.tuple #[.slice none 0 0, .int .i64 (enE p b.length)])))
set_option maxRecDepth 100000 in
set_option maxHeartbeats 8000000 in
theorem Encode_any (p : Pk) (ov bv : Value) (b : List Int) (w : World) (hov : IsB w.heap.size w ov p.opts) (hbv : IsB w.heap.size w bv b) (hs : p.src.Ok) (hd : p.dst.Ok) (ho : Bytes p.opts) (hlo : (p.opts.length : Int) ≤ 4611686018427380000) (hlb : (b.length : Int) ≤ 4611686018427387904) :
    Calls Try.prog 10 #[.agg (p.cells ov).toArray, bv] w (EnE w.heap.size w p b) := by
  obtain ⟨ao, co, rfl, _⟩ := hov.shape
  obtain ⟨ab, cb, rfl, _⟩ := hbv.shape
  obtain ⟨n, hn⟩ : ∃ n, n = p.opts.length := ⟨_, rfl⟩
  obtain ⟨bl, hbl⟩ : ∃ bl, bl = b.length := ⟨_, rfl⟩
  obtain ⟨s, hs0⟩ : ∃ s, s = w.heap.size := ⟨_, rfl⟩
  rw [← hn] at hov hlo ⊢
  rw [← hbl] at hbv hlb ⊢
  obtain ⟨X, hX⟩ : ∃ X, X = p.cells (.slice ao n co) := ⟨_, rfl⟩
  have lX : X.length = 16 := by rw [hX]; rfl
  rw [← hX]
  obtain ⟨w1, hw1⟩ : ∃ w1, w1 = w.alloc (.cells X.toArray 26) := ⟨_, rfl⟩
  have b1 : Below w.heap.size w w1 := by rw [hw1]; exact (Below.refl _ w).alloc (Nat.le_refl _) _
  have c1 : CellsAt w1 s 0 X := by rw [hw1, hs0]; exact CellsAt.new w X 26
  have l1 : s < w1.heap.size := by rw [hw1, hs0]; simp
  have x15 : w1.cell? ⟨s, 15, none⟩ = some (.slice ao n co) := c1 15 _ (by rw [hX]; rfl)
  have MB := mayBe_any p (.slice ao n co) w1
  rw [← hX] at MB
  obtain ⟨m, hm⟩ : ∃ m, m = mb p := ⟨_, rfl⟩
  rw [← hm] at MB
  have EE : Hid (enE p bl = if m = false then 1 else if opB p = false then 92 else if 65535 < 20 + n + bl then 2 else 0) := by unfold Hid; rw [hm, hn]; rfl
  have HMB := hide MB
  have HX := hide hX
  have HM := hide hm
  have HB1 := hide b1
  have HC1 := hide c1
  have LX := hide lX
  have HOV := hide hov
  have HBV := hide hbv
  have HS := hide hs0
  have HN := hide hn
  have HBL := hide hbl
  have SL := l1
  obtain ⟨E0, hE0⟩ : ∃ E0, E0 = enE p bl := ⟨_, rfl⟩
  have POST : Hid (∀ e w', (Below w.heap.size w w' ∧ ((E0 = 0 ∧ ∃ v, e = .returned (.tuple #[v, .int .i64 0]) ∧ Gro w.heap.size w' v (enB p b)) ∨ (E0 ≠ 0 ∧ e = .returned (.tuple #[.slice none 0 0, .int .i64 E0])))) → EnE w.heap.size w p b e w') := fun e w' h => by
    unfold EnE
    rw [← hbl, ← hE0]
    exact h
  rw [← hE0] at EE
  refine Calls.mono (R := fun e w' => Below w.heap.size w w' ∧ ((E0 = 0 ∧ ∃ v, e = .returned (.tuple #[v, .int .i64 0]) ∧ Gro w.heap.size w' v (enB p b)) ∨ (E0 ≠ 0 ∧ e = .returned (.tuple #[.slice none 0 0, .int .i64 E0])))) ?_ POST.out
  have zn : (20 : Int) + (n : Int) ≤ 4611686018427387904 := by omega
  clear hX hm b1 c1 lX hov hbv hn hbl MB l1 hE0 POST
  go_enter Try.func10, Try.ntmps10
  have hw1' := hw1.symm
  have hs' := hs0.symm
  clear hw1 hs0
  go_wp2_with (refine wpList_loadA rfl 26 16 aggP sizP _ rfl s 0 rfl X LX.out HC1.out ?_)
  clear hw1' hs'
  refine HMB.out.mono ?_
  rintro _ w2 ⟨rfl, b2⟩
  have HB2 : Hid (Below w.heap.size w w2) := HB1.out.trans (b2.mono HB1.out.size)
  have C2 := hide (HC1.out.later SL b2)
  have SL2 : s < w2.heap.size := Nat.lt_of_lt_of_le SL b2.size
  have x15b : w2.cell? ⟨s, 15, none⟩ = some (.slice ao n co) := C2.out 15 _ (by rw [HX.out]; rfl)
  clear b2 HMB x15
  cases m with
  | false =>
    have E1 : Hid (E0 = 1) := by unfold Hid; rw [EE.out, if_pos rfl]
    go_wp2
    refine bodyPost_ret (v := .tuple #[.slice none 0 0, .int .i64 1]) (by simp [results, go_sem]) rfl ?_
    exact ⟨HB2.out, .inr ⟨by rw [E1.out]; decide, by rw [E1.out]⟩⟩
  | true =>
    have EE2 : Hid (E0 = if opB p = false then 92 else if 65535 < 20 + n + bl then 2 else 0) := by unfold Hid; rw [EE.out, if_neg (by decide)]
    have OPB : Hid (opB p = (decide (n ≤ 40) && (decide (n % 4 = 0) && okO p.opts))) := by unfold Hid; rw [HN.out]; rfl
    have BAD : Hid (opB p = false → E0 = 92) := fun h => by rw [EE2.out, if_pos h]
    by_cases h40 : (40 : Int) < (n : Int)
    · have E1 : Hid (E0 = 92) := BAD.out (by rw [OPB.out, decide_eq_false (by omega)]; rfl)
      go_wp2
      refine bodyPost_ret (v := .tuple #[.slice none 0 0, .int .i64 92]) (by simp [results, go_sem]) rfl ?_
      exact ⟨HB2.out, .inr ⟨by rw [E1.out]; decide, by rw [E1.out]⟩⟩
    by_cases h4 : n % 4 = 0
    · have q4 : ((n : Int).tmod 4 != 0) = false := by
        rw [Int.tmod_eq_emod_of_nonneg (by omega)]
        have : (n : Int) % 4 = 0 := by omega
        rw [this]; rfl
      have q4' : ((n : Int) % 4 != 0) = false := by
        have : (n : Int) % 4 = 0 := by omega
        rw [this]; rfl
      have AR := hide (areRight_any (HOV.out.later HB2.out |>.mono (Nat.le_refl _)) ho (by rw [← HN.out]; omega))
      obtain ⟨r, hr⟩ : ∃ r, r = okO p.opts := ⟨_, rfl⟩
      rw [← hr] at AR OPB
      clear hr
      go_wp2_with fail
      refine AR.out.mono ?_
      rintro _ w3 ⟨rfl, b3⟩
      have HB3 : Hid (Below w.heap.size w w3) := HB2.out.trans (b3.mono HB2.out.size)
      have C3 := hide (C2.out.later SL2 b3)
      have SL3 : s < w3.heap.size := Nat.lt_of_lt_of_le SL2 b3.size
      clear b3 AR x15b q4 q4' C2
      cases r with
      | false =>
        have E1 : Hid (E0 = 92) := BAD.out (by rw [OPB.out]; simp)
        go_wp2
        refine bodyPost_ret (v := .tuple #[.slice none 0 0, .int .i64 92]) (by simp [results, go_sem]) rfl ?_
        exact ⟨HB3.out, .inr ⟨by rw [E1.out]; decide, by rw [E1.out]⟩⟩
      | true =>
        have EE3 : Hid (E0 = if 65535 < 20 + n + bl then 2 else 0) := by
          unfold Hid
          rw [EE2.out, if_neg (by rw [OPB.out, decide_eq_true h4, decide_eq_true (by omega)]; decide)]
        by_cases hbig : 65535 < 20 + n + bl
        · have E1 : Hid (E0 = 2) := by unfold Hid; rw [EE3.out, if_pos hbig]
          have zb : (65535 : Int) - (20 + (n : Int)) < (bl : Int) := by omega
          go_wp2
          refine bodyPost_ret (v := .tuple #[.slice none 0 0, .int .i64 2]) (by simp [results, go_sem]) rfl ?_
          exact ⟨HB3.out, .inr ⟨by rw [E1.out]; decide, by rw [E1.out]⟩⟩
        · have E1 : Hid (E0 = 0) := by unfold Hid; rw [EE3.out, if_neg hbig]
          have zb : ¬ (65535 : Int) - (20 + (n : Int)) < (bl : Int) := by omega
          obtain ⟨m1, m2, m3, m4, m5, m6⟩ := mb_true HM.out.symm
          have n40 : n ≤ 40 := by omega
          have NUM := hide (And.intro m1 (And.intro m2 (And.intro m3 (And.intro m4 m5))))
          clear EE EE2 EE3 BAD OPB h4 m1 m2 m3 m4 m5 m6 h40
          go_upto_region 10 with fail
          go_cut [7] from 37 to 64 (fun v7 wx => ∃ (a7 : Option Addr) (c7 : Nat), v7 = .slice a7 10 c7 ∧ Hid (IsB wx.heap.size wx (.slice a7 10 c7) (ahd p (20 + (n : Int) + (bl : Int)))) ∧ Hid (Below w.heap.size w wx) ∧ Hid (CellsAt wx s 0 X) ∧ s < wx.heap.size)
          case first =>
            obtain ⟨m1, m2, m3, m4, m5⟩ := NUM.out
            have CW : ∀ W, Below w3.heap.size w3.drew W → CellsAt W s 0 (p.cells (.slice ao n co)) := fun W hb => by
              rw [← HX.out]
              exact C3.out.later SL3 (((Below.refl _ w3).drew).trans hb)
            refine region_grow (w := w3) (fun i v W => match i with | 0 => v = .int .i64 (20 + (n : Int)) | 1 => v = .int .i64 ((20 + (n : Int)) / 4) | 2 => v = .int .i64 (64 + (20 + (n : Int)) / 4) | 3 => v = .int .u8 (64 + (20 + (n : Int)) / 4) | 4 => v = .pointer (some ⟨s, 11, none⟩) | 5 => v = .int .i64 p.tos | 6 => v = .int .u8 p.tos | 7 => IsB W.heap.size W v [64 + (20 + (n : Int)) / 4, p.tos] | 8 => v = .int .i64 (20 + (n : Int)) | 9 => v = .slice ab bl cb | 10 => v = .int .i64 (bl : Int) | 11 => v = .int .i64 (20 + (n : Int) + (bl : Int)) | 12 => IsB W.heap.size W v (put16 (20 + (n : Int) + (bl : Int))) | 13 => v = .pointer (some ⟨s, 10, none⟩) | 14 => v = .int .i64 p.id | 15 => IsB W.heap.size W v (put16 p.id) | 16 => v = .agg (p.cells (.slice ao n co)).toArray | 17 => v = .int .i64 (pl p) | 18 => IsB W.heap.size W v (put16 (pl p)) | 19 => v = .pointer (some ⟨s, 9, none⟩) | 20 => v = .int .i64 p.ttl | 21 => v = .int .u8 p.ttl | 22 => v = .pointer (some ⟨s, 8, none⟩) | 23 => v = .int .i64 p.proto | 24 => v = .int .u8 p.proto | 25 => IsB W.heap.size W v [p.ttl, p.proto] | 26 => IsP W.heap.size W v [[64 + (20 + (n : Int)) / 4, p.tos], put16 (20 + (n : Int) + (bl : Int)), put16 p.id, put16 (pl p), [p.ttl, p.proto]] | 27 => IsB W.heap.size W v ([[64 + (20 + (n : Int)) / 4, p.tos], put16 (20 + (n : Int) + (bl : Int)), put16 p.id, put16 (pl p), [p.ttl, p.proto]].flatten) | 28 => IsB W.heap.size W v ([[64 + (20 + (n : Int)) / 4, p.tos], put16 (20 + (n : Int) + (bl : Int)), put16 p.id, put16 (pl p), [p.ttl, p.proto]].flatten) | _ => True) (by kernel_rfl) (by kernel_rfl) (by kernel_rfl) (no_guard (by kernel_rfl)) (fun i v W W' h hb => match i, h with | 0, h => h | 1, h => h | 2, h => h | 3, h => h | 4, h => h | 5, h => h | 6, h => h | 7, h => IsB.later h hb | 8, h => h | 9, h => h | 10, h => h | 11, h => h | 12, h => IsB.later h hb | 13, h => h | 14, h => h | 15, h => IsB.later h hb | 16, h => h | 17, h => h | 18, h => IsB.later h hb | 19, h => h | 20, h => h | 21, h => h | 22, h => h | 23, h => h | 24, h => h | 25, h => IsB.later h hb | 26, h => IsP.later h hb | 27, h => IsB.later h hb | 28, h => IsB.later h hb | _ + 29, h => h) ?_ ?_
            · intro listed a W hM hn i o ho hr
              have B := hM.bel
              match i, ho, hr with
              | 0, ho, hr =>
                have u6 : a.eval (.tmp 6) = .int .i64 (20 + (n : Int)) := hM.keep (t := 6) (by kernel_rfl)
                exact Step.of rfl (.inl ⟨.int .i64 (20 + (n : Int)), W, exec_move _ _ rfl u6, Below.refl _ _, rfl⟩) ho
              | 1, ho, hr =>
                have u37 := hM.use hr rfl (j := 0) (by kernel_rfl) rfl rfl
                have u37 : a.eval (.tmp 37) = .int .i64 (20 + (n : Int)) := u37
                exact Step.of rfl (.inl ⟨.int .i64 ((20 + (n : Int)) / 4), W, exec_quo4 _ _ _ rfl (fun _ => rfl) u37 (by omega) (by omega), Below.refl _ _, rfl⟩) ho
              | 2, ho, hr =>
                have u38 := hM.use hr rfl (j := 1) (by kernel_rfl) rfl rfl
                have u38 : a.eval (.tmp 38) = .int .i64 ((20 + (n : Int)) / 4) := u38
                exact Step.of rfl (.inl ⟨.int .i64 (64 + (20 + (n : Int)) / 4), W, exec_or64 _ _ _ rfl (fun _ => rfl) u38 (by omega) (by omega), Below.refl _ _, rfl⟩) ho
              | 3, ho, hr =>
                have u39 := hM.use hr rfl (j := 2) (by kernel_rfl) rfl rfl
                have u39 : a.eval (.tmp 39) = .int .i64 (64 + (20 + (n : Int)) / 4) := u39
                exact Step.of rfl (.inl ⟨.int .u8 (64 + (20 + (n : Int)) / 4), W, exec_conv8 _ _ rfl u39 (by omega) (by omega), Below.refl _ _, rfl⟩) ho
              | 4, ho, hr =>
                have u2 : a.eval (.tmp 2) = .pointer (some ⟨s, 0, none⟩) := hM.keep (t := 2) (by kernel_rfl)
                exact Step.of rfl (.inl ⟨.pointer (some ⟨s, 11, none⟩), W, exec_fieldO 26 _ 5 s 0 11 rfl u2 (fun w => by kernel_rfl), Below.refl _ _, rfl⟩) ho
              | 5, ho, hr =>
                have u41 := hM.use hr rfl (j := 4) (by kernel_rfl) rfl rfl
                have u41 : a.eval (.tmp 41) = .pointer (some ⟨s, 11, none⟩) := u41
                exact Step.of rfl (.inl ⟨.int .i64 p.tos, W, exec_load1 3 one1 _ rfl s 11 u41 (.int .i64 p.tos) (CW W B 11 _ rfl), Below.refl _ _, rfl⟩) ho
              | 6, ho, hr =>
                have u42 := hM.use hr rfl (j := 5) (by kernel_rfl) rfl rfl
                have u42 : a.eval (.tmp 42) = .int .i64 p.tos := u42
                exact Step.of rfl (.inl ⟨.int .u8 p.tos, W, exec_conv8 _ _ rfl u42 (by omega) (by omega), Below.refl _ _, rfl⟩) ho
              | 7, ho, hr =>
                have u40 := hM.use hr rfl (j := 3) (by kernel_rfl) rfl rfl
                have u40 : a.eval (.tmp 40) = .int .u8 (64 + (20 + (n : Int)) / 4) := u40
                have u43 := hM.use hr rfl (j := 6) (by kernel_rfl) rfl rfl
                have u43 : a.eval (.tmp 43) = .int .u8 p.tos := u43
                refine Step.of rfl (.inl ?_) ho
                exact row_bytes2 rfl u40 u43
              | 8, ho, hr =>
                have u6 : a.eval (.tmp 6) = .int .i64 (20 + (n : Int)) := hM.keep (t := 6) (by kernel_rfl)
                exact Step.of rfl (.inl ⟨.int .i64 (20 + (n : Int)), W, exec_move _ _ rfl u6, Below.refl _ _, rfl⟩) ho
              | 9, ho, hr =>
                have u1 : a.eval (.tmp 1) = .slice ab bl cb := hM.keep (t := 1) (by kernel_rfl)
                exact Step.of rfl (.inl ⟨.slice ab bl cb, W, exec_move _ _ rfl u1, Below.refl _ _, rfl⟩) ho
              | 10, ho, hr =>
                have u46 := hM.use hr rfl (j := 9) (by kernel_rfl) rfl rfl
                have u46 : a.eval (.tmp 46) = .slice ab bl cb := u46
                exact Step.of rfl (.inl ⟨.int .i64 (bl : Int), W, exec_len _ _ ab bl cb (by kernel_rfl) rfl u46, Below.refl _ _, rfl⟩) ho
              | 11, ho, hr =>
                have u45 := hM.use hr rfl (j := 8) (by kernel_rfl) rfl rfl
                have u45 : a.eval (.tmp 45) = .int .i64 (20 + (n : Int)) := u45
                have u47 := hM.use hr rfl (j := 10) (by kernel_rfl) rfl rfl
                have u47 : a.eval (.tmp 47) = .int .i64 (bl : Int) := u47
                exact Step.of rfl (.inl ⟨.int .i64 (20 + (n : Int) + (bl : Int)), W, exec_addi _ _ _ _ _ rfl u45 u47 (by omega) (by omega), Below.refl _ _, rfl⟩) ho
              | 12, ho, hr =>
                have u48 := hM.use hr rfl (j := 11) (by kernel_rfl) rfl rfl
                have u48 : a.eval (.tmp 48) = .int .i64 (20 + (n : Int) + (bl : Int)) := u48
                refine Step.of rfl (.inr ⟨22, #[.int .i64 (20 + (n : Int) + (bl : Int))], exec_callF _ _ _ _ rfl (map1 u48) (enters_of Try.func22 (by kernel_rfl) rfl), ?_⟩) ho
                exact number_isB _ W
              | 13, ho, hr =>
                have u2 : a.eval (.tmp 2) = .pointer (some ⟨s, 0, none⟩) := hM.keep (t := 2) (by kernel_rfl)
                exact Step.of rfl (.inl ⟨.pointer (some ⟨s, 10, none⟩), W, exec_fieldO 26 _ 4 s 0 10 rfl u2 (fun w => by kernel_rfl), Below.refl _ _, rfl⟩) ho
              | 14, ho, hr =>
                have u50 := hM.use hr rfl (j := 13) (by kernel_rfl) rfl rfl
                have u50 : a.eval (.tmp 50) = .pointer (some ⟨s, 10, none⟩) := u50
                exact Step.of rfl (.inl ⟨.int .i64 p.id, W, exec_load1 3 one1 _ rfl s 10 u50 (.int .i64 p.id) (CW W B 10 _ rfl), Below.refl _ _, rfl⟩) ho
              | 15, ho, hr =>
                have u51 := hM.use hr rfl (j := 14) (by kernel_rfl) rfl rfl
                have u51 : a.eval (.tmp 51) = .int .i64 p.id := u51
                refine Step.of rfl (.inr ⟨22, #[.int .i64 p.id], exec_callF _ _ _ _ rfl (map1 u51) (enters_of Try.func22 (by kernel_rfl) rfl), ?_⟩) ho
                exact number_isB _ W
              | 16, ho, hr =>
                have u2 : a.eval (.tmp 2) = .pointer (some ⟨s, 0, none⟩) := hM.keep (t := 2) (by kernel_rfl)
                exact Step.of rfl (.inl ⟨.agg (p.cells (.slice ao n co)).toArray, W, exec_loadA 26 16 aggP sizP _ rfl s 0 u2 (p.cells (.slice ao n co)) rfl (CW W B), Below.refl _ _, rfl⟩) ho
              | 17, ho, hr =>
                have u53 := hM.use hr rfl (j := 16) (by kernel_rfl) rfl rfl
                have u53 : a.eval (.tmp 53) = .agg (p.cells (.slice ao n co)).toArray := u53
                refine Step.of rfl (.inr ⟨23, #[.agg (p.cells (.slice ao n co)).toArray], exec_callF _ _ _ _ rfl (map1 u53) (enters_of Try.func23 (by kernel_rfl) rfl), ?_⟩) ho
                exact (placeOf_any p _ m5.1 m5.2 W).mono (by rintro _ W' ⟨rfl, hb⟩; exact ⟨_, rfl, rfl, hb⟩)
              | 18, ho, hr =>
                have u54 := hM.use hr rfl (j := 17) (by kernel_rfl) rfl rfl
                have u54 : (fun v W => v = .int .i64 (pl p)) (a.eval (.tmp 54)) W := u54
                refine Step.of rfl (.inr ⟨22, #[.int .i64 (pl p)], exec_callF _ _ _ _ rfl (map1 u54) (enters_of Try.func22 (by kernel_rfl) rfl), ?_⟩) ho
                exact number_isB _ W
              | 19, ho, hr =>
                have u2 : a.eval (.tmp 2) = .pointer (some ⟨s, 0, none⟩) := hM.keep (t := 2) (by kernel_rfl)
                exact Step.of rfl (.inl ⟨.pointer (some ⟨s, 9, none⟩), W, exec_fieldO 26 _ 3 s 0 9 rfl u2 (fun w => by kernel_rfl), Below.refl _ _, rfl⟩) ho
              | 20, ho, hr =>
                have u56 := hM.use hr rfl (j := 19) (by kernel_rfl) rfl rfl
                have u56 : a.eval (.tmp 56) = .pointer (some ⟨s, 9, none⟩) := u56
                exact Step.of rfl (.inl ⟨.int .i64 p.ttl, W, exec_load1 3 one1 _ rfl s 9 u56 (.int .i64 p.ttl) (CW W B 9 _ rfl), Below.refl _ _, rfl⟩) ho
              | 21, ho, hr =>
                have u57 := hM.use hr rfl (j := 20) (by kernel_rfl) rfl rfl
                have u57 : a.eval (.tmp 57) = .int .i64 p.ttl := u57
                exact Step.of rfl (.inl ⟨.int .u8 p.ttl, W, exec_conv8 _ _ rfl u57 (by omega) (by omega), Below.refl _ _, rfl⟩) ho
              | 22, ho, hr =>
                have u2 : a.eval (.tmp 2) = .pointer (some ⟨s, 0, none⟩) := hM.keep (t := 2) (by kernel_rfl)
                exact Step.of rfl (.inl ⟨.pointer (some ⟨s, 8, none⟩), W, exec_fieldO 26 _ 2 s 0 8 rfl u2 (fun w => by kernel_rfl), Below.refl _ _, rfl⟩) ho
              | 23, ho, hr =>
                have u59 := hM.use hr rfl (j := 22) (by kernel_rfl) rfl rfl
                have u59 : a.eval (.tmp 59) = .pointer (some ⟨s, 8, none⟩) := u59
                exact Step.of rfl (.inl ⟨.int .i64 p.proto, W, exec_load1 3 one1 _ rfl s 8 u59 (.int .i64 p.proto) (CW W B 8 _ rfl), Below.refl _ _, rfl⟩) ho
              | 24, ho, hr =>
                have u60 := hM.use hr rfl (j := 23) (by kernel_rfl) rfl rfl
                have u60 : a.eval (.tmp 60) = .int .i64 p.proto := u60
                exact Step.of rfl (.inl ⟨.int .u8 p.proto, W, exec_conv8 _ _ rfl u60 (by omega) (by omega), Below.refl _ _, rfl⟩) ho
              | 25, ho, hr =>
                have u58 := hM.use hr rfl (j := 21) (by kernel_rfl) rfl rfl
                have u58 : a.eval (.tmp 58) = .int .u8 p.ttl := u58
                have u61 := hM.use hr rfl (j := 24) (by kernel_rfl) rfl rfl
                have u61 : a.eval (.tmp 61) = .int .u8 p.proto := u61
                refine Step.of rfl (.inl ?_) ho
                exact row_bytes2 rfl u58 u61
              | 26, ho, hr =>
                have u44 := hM.use hr rfl (j := 7) (by kernel_rfl) rfl rfl
                have u44 : (fun v W => IsB W.heap.size W v [64 + (20 + (n : Int)) / 4, p.tos]) (a.eval (.tmp 44)) W := u44
                have u49 := hM.use hr rfl (j := 12) (by kernel_rfl) rfl rfl
                have u49 : (fun v W => IsB W.heap.size W v (put16 (20 + (n : Int) + (bl : Int)))) (a.eval (.tmp 49)) W := u49
                have u52 := hM.use hr rfl (j := 15) (by kernel_rfl) rfl rfl
                have u52 : (fun v W => IsB W.heap.size W v (put16 p.id)) (a.eval (.tmp 52)) W := u52
                have u55 := hM.use hr rfl (j := 18) (by kernel_rfl) rfl rfl
                have u55 : (fun v W => IsB W.heap.size W v (put16 (pl p))) (a.eval (.tmp 55)) W := u55
                have u62 := hM.use hr rfl (j := 25) (by kernel_rfl) rfl rfl
                have u62 : (fun v W => IsB W.heap.size W v [p.ttl, p.proto]) (a.eval (.tmp 62)) W := u62
                refine Step.of rfl (.inl ?_) ho
                exact row_parts5 rfl u44 u49 u52 u55 u62
              | 27, ho, hr =>
                have u63 := hM.use hr rfl (j := 26) (by kernel_rfl) rfl rfl
                have u63 : (fun v W => IsP W.heap.size W v [[64 + (20 + (n : Int)) / 4, p.tos], put16 (20 + (n : Int) + (bl : Int)), put16 p.id, put16 (pl p), [p.ttl, p.proto]]) (a.eval (.tmp 63)) W := u63
                refine Step.of rfl (.inr ⟨21, #[a.eval (.tmp 63)], exec_callF _ _ _ _ rfl (map1 rfl) (enters_of Try.func21 (by kernel_rfl) rfl), ?_⟩) ho
                exact join_isB u63 (by simp) (by simp [put16])
              | 28, ho, hr =>
                have u64 := hM.use hr rfl (j := 27) (by kernel_rfl) rfl rfl
                have u64 : (fun v W => IsB W.heap.size W v ([[64 + (20 + (n : Int)) / 4, p.tos], put16 (20 + (n : Int) + (bl : Int)), put16 p.id, put16 (pl p), [p.ttl, p.proto]].flatten)) (a.eval (.tmp 64)) W := u64
                exact Step.of rfl (.inl ⟨_, W, exec_assign _ _ rfl rfl, Below.refl _ _, u64⟩) ho
              | n + 29, ho, _ => exact absurd (Array.getElem?_eq_some_iff.1 ho).1 (by simp)
            intro listed a W hM hl
            have B := hM.bel
            have p37 : a.tmps.getD 37 undef = .int .i64 (20 + (n : Int)) := hM.got 0 _ _ rfl (hl 0 (by decide)) rfl
            have p38 : a.tmps.getD 38 undef = .int .i64 ((20 + (n : Int)) / 4) := hM.got 1 _ _ rfl (hl 1 (by decide)) rfl
            have p39 : a.tmps.getD 39 undef = .int .i64 (64 + (20 + (n : Int)) / 4) := hM.got 2 _ _ rfl (hl 2 (by decide)) rfl
            have p40 : a.tmps.getD 40 undef = .int .u8 (64 + (20 + (n : Int)) / 4) := hM.got 3 _ _ rfl (hl 3 (by decide)) rfl
            have p41 : a.tmps.getD 41 undef = .pointer (some ⟨s, 11, none⟩) := hM.got 4 _ _ rfl (hl 4 (by decide)) rfl
            have p42 : a.tmps.getD 42 undef = .int .i64 p.tos := hM.got 5 _ _ rfl (hl 5 (by decide)) rfl
            have p43 : a.tmps.getD 43 undef = .int .u8 p.tos := hM.got 6 _ _ rfl (hl 6 (by decide)) rfl
            have p44 : (fun v W => IsB W.heap.size W v [64 + (20 + (n : Int)) / 4, p.tos]) (a.tmps.getD 44 undef) W := hM.got 7 _ _ rfl (hl 7 (by decide)) rfl
            have p45 : a.tmps.getD 45 undef = .int .i64 (20 + (n : Int)) := hM.got 8 _ _ rfl (hl 8 (by decide)) rfl
            have p46 : a.tmps.getD 46 undef = .slice ab bl cb := hM.got 9 _ _ rfl (hl 9 (by decide)) rfl
            have p47 : a.tmps.getD 47 undef = .int .i64 (bl : Int) := hM.got 10 _ _ rfl (hl 10 (by decide)) rfl
            have p48 : a.tmps.getD 48 undef = .int .i64 (20 + (n : Int) + (bl : Int)) := hM.got 11 _ _ rfl (hl 11 (by decide)) rfl
            have p49 : (fun v W => IsB W.heap.size W v (put16 (20 + (n : Int) + (bl : Int)))) (a.tmps.getD 49 undef) W := hM.got 12 _ _ rfl (hl 12 (by decide)) rfl
            have p50 : a.tmps.getD 50 undef = .pointer (some ⟨s, 10, none⟩) := hM.got 13 _ _ rfl (hl 13 (by decide)) rfl
            have p51 : a.tmps.getD 51 undef = .int .i64 p.id := hM.got 14 _ _ rfl (hl 14 (by decide)) rfl
            have p52 : (fun v W => IsB W.heap.size W v (put16 p.id)) (a.tmps.getD 52 undef) W := hM.got 15 _ _ rfl (hl 15 (by decide)) rfl
            have p53 : a.tmps.getD 53 undef = .agg (p.cells (.slice ao n co)).toArray := hM.got 16 _ _ rfl (hl 16 (by decide)) rfl
            have p54 : (fun v W => v = .int .i64 (pl p)) (a.tmps.getD 54 undef) W := hM.got 17 _ _ rfl (hl 17 (by decide)) rfl
            have p55 : (fun v W => IsB W.heap.size W v (put16 (pl p))) (a.tmps.getD 55 undef) W := hM.got 18 _ _ rfl (hl 18 (by decide)) rfl
            have p56 : a.tmps.getD 56 undef = .pointer (some ⟨s, 9, none⟩) := hM.got 19 _ _ rfl (hl 19 (by decide)) rfl
            have p57 : a.tmps.getD 57 undef = .int .i64 p.ttl := hM.got 20 _ _ rfl (hl 20 (by decide)) rfl
            have p58 : a.tmps.getD 58 undef = .int .u8 p.ttl := hM.got 21 _ _ rfl (hl 21 (by decide)) rfl
            have p59 : a.tmps.getD 59 undef = .pointer (some ⟨s, 8, none⟩) := hM.got 22 _ _ rfl (hl 22 (by decide)) rfl
            have p60 : a.tmps.getD 60 undef = .int .i64 p.proto := hM.got 23 _ _ rfl (hl 23 (by decide)) rfl
            have p61 : a.tmps.getD 61 undef = .int .u8 p.proto := hM.got 24 _ _ rfl (hl 24 (by decide)) rfl
            have p62 : (fun v W => IsB W.heap.size W v [p.ttl, p.proto]) (a.tmps.getD 62 undef) W := hM.got 25 _ _ rfl (hl 25 (by decide)) rfl
            have p63 : (fun v W => IsP W.heap.size W v [[64 + (20 + (n : Int)) / 4, p.tos], put16 (20 + (n : Int) + (bl : Int)), put16 p.id, put16 (pl p), [p.ttl, p.proto]]) (a.tmps.getD 63 undef) W := hM.got 26 _ _ rfl (hl 26 (by decide)) rfl
            have p64 : (fun v W => IsB W.heap.size W v ([[64 + (20 + (n : Int)) / 4, p.tos], put16 (20 + (n : Int) + (bl : Int)), put16 p.id, put16 (pl p), [p.ttl, p.proto]].flatten)) (a.tmps.getD 64 undef) W := hM.got 27 _ _ rfl (hl 27 (by decide)) rfl
            have p7 : (fun v W => IsB W.heap.size W v ([[64 + (20 + (n : Int)) / 4, p.tos], put16 (20 + (n : Int) + (bl : Int)), put16 p.id, put16 (pl p), [p.ttl, p.proto]].flatten)) (a.tmps.getD 7 undef) W := hM.got 28 _ _ rfl (hl 28 (by decide)) rfl
            rw [hM.lit [37, 38, 39, 40, 41, 42, 43, 44, 45, 46, 47, 48, 49, 50, 51, 52, 53, 54, 55, 56, 57, 58, 59, 60, 61, 62, 63, 64, 7] (by kernel_rfl)]
            clear hM hl
            simp only [fill, List.foldl_cons, List.foldl_nil, Act.put, List.setIfInBounds_toArray, List.set_cons_zero, List.set_cons_succ]
            clear p37
            generalize a.tmps.getD 37 undef = x37 at *
            clear p38
            generalize a.tmps.getD 38 undef = x38 at *
            clear p39
            generalize a.tmps.getD 39 undef = x39 at *
            clear p40
            generalize a.tmps.getD 40 undef = x40 at *
            clear p41
            generalize a.tmps.getD 41 undef = x41 at *
            clear p42
            generalize a.tmps.getD 42 undef = x42 at *
            clear p43
            generalize a.tmps.getD 43 undef = x43 at *
            generalize a.tmps.getD 44 undef = x44 at *
            clear p45
            generalize a.tmps.getD 45 undef = x45 at *
            clear p46
            generalize a.tmps.getD 46 undef = x46 at *
            clear p47
            generalize a.tmps.getD 47 undef = x47 at *
            clear p48
            generalize a.tmps.getD 48 undef = x48 at *
            generalize a.tmps.getD 49 undef = x49 at *
            clear p50
            generalize a.tmps.getD 50 undef = x50 at *
            clear p51
            generalize a.tmps.getD 51 undef = x51 at *
            generalize a.tmps.getD 52 undef = x52 at *
            clear p53
            generalize a.tmps.getD 53 undef = x53 at *
            generalize a.tmps.getD 54 undef = x54 at *
            generalize a.tmps.getD 55 undef = x55 at *
            clear p56
            generalize a.tmps.getD 56 undef = x56 at *
            clear p57
            generalize a.tmps.getD 57 undef = x57 at *
            clear p58
            generalize a.tmps.getD 58 undef = x58 at *
            clear p59
            generalize a.tmps.getD 59 undef = x59 at *
            clear p60
            generalize a.tmps.getD 60 undef = x60 at *
            clear p61
            generalize a.tmps.getD 61 undef = x61 at *
            generalize a.tmps.getD 62 undef = x62 at *
            generalize a.tmps.getD 63 undef = x63 at *
            generalize a.tmps.getD 64 undef = x64 at *
            generalize a.tmps.getD 7 undef = x7 at *
            have B2 : Below w3.heap.size w3 W := ((Below.refl _ w3).drew).trans B
            have I7 : Hid (IsB W.heap.size W x7 (ahd p (20 + (n : Int) + (bl : Int)))) := by unfold Hid ahd; rw [← HN.out]; exact p7
            obtain ⟨a7, c7, e7, _⟩ := I7.out.shape
            rw [ahd_len] at e7
            subst e7
            have C4 := hide (C3.out.later SL3 B2)
            have B4 : Hid (Below w.heap.size w W) := HB3.out.trans (B2.mono HB3.out.size)
            have SL4 : s < W.heap.size := Nat.lt_of_lt_of_le SL3 B2.size
            clear p44 p49 p52 p54 p55 p62 p63 p64 p7 B B2 CW
            go_wp2
            go_meet
            exact ⟨a7, c7, rfl, I7, B4, C4, SL4⟩
          case rest =>
            obtain ⟨a7, c7, rfl, I7, B4, C4, SL4⟩ := hcut
            obtain ⟨w4, hw4⟩ : ∃ w4, w4 = wc := ⟨_, rfl⟩
            rw [← hw4] at I7 B4 C4 SL4 ⊢
            clear hw4 C3 HB3 SL3
            have O4 := hide (HOV.out.later B4.out)
            go_upto_region 11 with fail
            go_cut [8] from 65 to 72 (fun v8 wx => ∃ (a8 : Option Addr) (c8 : Nat), v8 = .slice a8 (8 + n) c8 ∧ Hid (IsB wx.heap.size wx (.slice a8 (8 + n) c8) (bhd p)) ∧ Hid (IsB wx.heap.size wx (.slice a7 10 c7) (ahd p (20 + (n : Int) + (bl : Int)))) ∧ Hid (Below w.heap.size w wx))
            case first =>
              have CW : ∀ W, Below w4.heap.size w4.drew W → CellsAt W s 0 (p.cells (.slice ao n co)) := fun W hb => by
                rw [← HX.out]
                exact C4.out.later SL4 (((Below.refl _ w4).drew).trans hb)
              have CS : ∀ W, Below w4.heap.size w4.drew W → CellsAt W s 0 p.src.vals ∧ CellsAt W s 4 p.dst.vals := fun W hb => by
                have h1 := CellsAt.append.1 (CW W hb)
                exact ⟨h1.1, (CellsAt.append.1 h1.2).1⟩
              refine region_grow (w := w4) (fun i v W => match i with | 0 => v = .pointer (some ⟨s, 0, none⟩) | 1 => v = .slice (some ⟨s, 0, none⟩) 4 4 | 2 => v = .pointer (some ⟨s, 4, none⟩) | 3 => v = .slice (some ⟨s, 4, none⟩) 4 4 | 4 => v = .pointer (some ⟨s, 15, none⟩) | 5 => v = .slice ao n co | 6 => IsP W.heap.size W v [ipL p.src, ipL p.dst, p.opts] | 7 => IsB W.heap.size W v ([ipL p.src, ipL p.dst, p.opts].flatten) | 8 => IsB W.heap.size W v ([ipL p.src, ipL p.dst, p.opts].flatten) | _ => True) (by kernel_rfl) (by kernel_rfl) (by kernel_rfl) (no_guard (by kernel_rfl)) (fun i v W W' h hb => match i, h with | 0, h => h | 1, h => h | 2, h => h | 3, h => h | 4, h => h | 5, h => h | 6, h => IsP.later h hb | 7, h => IsB.later h hb | 8, h => IsB.later h hb | _ + 9, h => h) ?_ ?_
              · intro listed a W hM hn i o ho hr
                have B := hM.bel
                match i, ho, hr with
                | 0, ho, hr =>
                  have u2 : a.eval (.tmp 2) = .pointer (some ⟨s, 0, none⟩) := hM.keep (t := 2) (by kernel_rfl)
                  exact Step.of rfl (.inl ⟨.pointer (some ⟨s, 0, none⟩), W, exec_fieldO 26 _ 0 s 0 0 rfl u2 (fun w => by kernel_rfl), Below.refl _ _, rfl⟩) ho
                | 1, ho, hr =>
                  have u65 := hM.use hr rfl (j := 0) (by kernel_rfl) rfl rfl
                  have u65 : a.eval (.tmp 65) = .pointer (some ⟨s, 0, none⟩) := u65
                  exact Step.of rfl (.inl ⟨.slice (some ⟨s, 0, none⟩) 4 4, W, exec_slI _ s 0 rfl u65, Below.refl _ _, rfl⟩) ho
                | 2, ho, hr =>
                  have u2 : a.eval (.tmp 2) = .pointer (some ⟨s, 0, none⟩) := hM.keep (t := 2) (by kernel_rfl)
                  exact Step.of rfl (.inl ⟨.pointer (some ⟨s, 4, none⟩), W, exec_fieldO 26 _ 1 s 0 4 rfl u2 (fun w => by kernel_rfl), Below.refl _ _, rfl⟩) ho
                | 3, ho, hr =>
                  have u67 := hM.use hr rfl (j := 2) (by kernel_rfl) rfl rfl
                  have u67 : a.eval (.tmp 67) = .pointer (some ⟨s, 4, none⟩) := u67
                  exact Step.of rfl (.inl ⟨.slice (some ⟨s, 4, none⟩) 4 4, W, exec_slI _ s 4 rfl u67, Below.refl _ _, rfl⟩) ho
                | 4, ho, hr =>
                  have u2 : a.eval (.tmp 2) = .pointer (some ⟨s, 0, none⟩) := hM.keep (t := 2) (by kernel_rfl)
                  exact Step.of rfl (.inl ⟨.pointer (some ⟨s, 15, none⟩), W, exec_fieldO 26 _ 9 s 0 15 rfl u2 (fun w => by kernel_rfl), Below.refl _ _, rfl⟩) ho
                | 5, ho, hr =>
                  have u69 := hM.use hr rfl (j := 4) (by kernel_rfl) rfl rfl
                  have u69 : a.eval (.tmp 69) = .pointer (some ⟨s, 15, none⟩) := u69
                  exact Step.of rfl (.inl ⟨.slice ao n co, W, exec_load1 24 oneS _ rfl s 15 u69 (.slice ao n co) (CW W B 15 _ rfl), Below.refl _ _, rfl⟩) ho
                | 6, ho, hr =>
                  have u66 := hM.use hr rfl (j := 1) (by kernel_rfl) rfl rfl
                  have u66 : a.eval (.tmp 66) = .slice (some ⟨s, 0, none⟩) 4 4 := u66
                  have u68 := hM.use hr rfl (j := 3) (by kernel_rfl) rfl rfl
                  have u68 : a.eval (.tmp 68) = .slice (some ⟨s, 4, none⟩) 4 4 := u68
                  have u70 := hM.use hr rfl (j := 5) (by kernel_rfl) rfl rfl
                  have u70 : a.eval (.tmp 70) = .slice ao n co := u70
                  refine Step.of rfl (.inl ?_) ho
                  exact row_parts3 rfl (by rw [u66]; exact ip_isB (CS W B).1) (by rw [u68]; exact ip_isB (CS W B).2) (by rw [u70]; exact O4.out.later (((Below.refl _ w4).drew).trans B))
                | 7, ho, hr =>
                  have u71 := hM.use hr rfl (j := 6) (by kernel_rfl) rfl rfl
                  have u71 : (fun v W => IsP W.heap.size W v [ipL p.src, ipL p.dst, p.opts]) (a.eval (.tmp 71)) W := u71
                  refine Step.of rfl (.inr ⟨21, #[a.eval (.tmp 71)], exec_callF _ _ _ _ rfl (map1 rfl) (enters_of Try.func21 (by kernel_rfl) rfl), ?_⟩) ho
                  exact join_isB u71 (by simp) (by have := bhd_len p; unfold bhd at this; rw [this, ← HN.out]; omega)
                | 8, ho, hr =>
                  have u72 := hM.use hr rfl (j := 7) (by kernel_rfl) rfl rfl
                  have u72 : (fun v W => IsB W.heap.size W v ([ipL p.src, ipL p.dst, p.opts].flatten)) (a.eval (.tmp 72)) W := u72
                  exact Step.of rfl (.inl ⟨_, W, exec_assign _ _ rfl rfl, Below.refl _ _, u72⟩) ho
                | n + 9, ho, _ => exact absurd (Array.getElem?_eq_some_iff.1 ho).1 (by simp)
              intro listed a W hM hl
              have B := hM.bel
              have p65 : a.tmps.getD 65 undef = .pointer (some ⟨s, 0, none⟩) := hM.got 0 _ _ rfl (hl 0 (by decide)) rfl
              have p66 : a.tmps.getD 66 undef = .slice (some ⟨s, 0, none⟩) 4 4 := hM.got 1 _ _ rfl (hl 1 (by decide)) rfl
              have p67 : a.tmps.getD 67 undef = .pointer (some ⟨s, 4, none⟩) := hM.got 2 _ _ rfl (hl 2 (by decide)) rfl
              have p68 : a.tmps.getD 68 undef = .slice (some ⟨s, 4, none⟩) 4 4 := hM.got 3 _ _ rfl (hl 3 (by decide)) rfl
              have p69 : a.tmps.getD 69 undef = .pointer (some ⟨s, 15, none⟩) := hM.got 4 _ _ rfl (hl 4 (by decide)) rfl
              have p70 : a.tmps.getD 70 undef = .slice ao n co := hM.got 5 _ _ rfl (hl 5 (by decide)) rfl
              have p71 : (fun v W => IsP W.heap.size W v [ipL p.src, ipL p.dst, p.opts]) (a.tmps.getD 71 undef) W := hM.got 6 _ _ rfl (hl 6 (by decide)) rfl
              have p72 : (fun v W => IsB W.heap.size W v ([ipL p.src, ipL p.dst, p.opts].flatten)) (a.tmps.getD 72 undef) W := hM.got 7 _ _ rfl (hl 7 (by decide)) rfl
              have p8 : (fun v W => IsB W.heap.size W v ([ipL p.src, ipL p.dst, p.opts].flatten)) (a.tmps.getD 8 undef) W := hM.got 8 _ _ rfl (hl 8 (by decide)) rfl
              rw [hM.lit [65, 66, 67, 68, 69, 70, 71, 72, 8] (by kernel_rfl)]
              clear hM hl
              simp only [fill, List.foldl_cons, List.foldl_nil, Act.put, List.setIfInBounds_toArray, List.set_cons_zero, List.set_cons_succ]
              clear p65
              generalize a.tmps.getD 65 undef = x65 at *
              clear p66
              generalize a.tmps.getD 66 undef = x66 at *
              clear p67
              generalize a.tmps.getD 67 undef = x67 at *
              clear p68
              generalize a.tmps.getD 68 undef = x68 at *
              clear p69
              generalize a.tmps.getD 69 undef = x69 at *
              clear p70
              generalize a.tmps.getD 70 undef = x70 at *
              generalize a.tmps.getD 71 undef = x71 at *
              generalize a.tmps.getD 72 undef = x72 at *
              generalize a.tmps.getD 8 undef = x8 at *
              have B2 : Below w4.heap.size w4 W := ((Below.refl _ w4).drew).trans B
              have I8 : Hid (IsB W.heap.size W x8 (bhd p)) := p8
              obtain ⟨a8, c8, e8, _⟩ := I8.out.shape
              rw [bhd_len, ← HN.out] at e8
              subst e8
              have I7' := hide (I7.out.later B2)
              have B5 : Hid (Below w.heap.size w W) := B4.out.trans (B2.mono B4.out.size)
              clear p71 p72 p8 B B2 CW CS
              go_wp2
              go_meet
              exact ⟨a8, c8, rfl, I8, I7', B5⟩
            case rest =>
              obtain ⟨a8, c8, rfl, I8, I7', B5⟩ := hcut
              obtain ⟨w5, hw5⟩ : ∃ w5, w5 = wc := ⟨_, rfl⟩
              rw [← hw5] at I8 I7' B5 ⊢
              clear hw5 C4 SL4 O4 I7 B4
              have mbt : mb p = true := HM.out.symm
              have BA := ahd_bytes mbt (by rw [← HN.out]; exact n40) (20 + (n : Int) + (bl : Int))
              have BB := bhd_bytes hs hd ho
              obtain ⟨c, hc⟩ : ∃ c, c = csum (ahd p (20 + (n : Int) + (bl : Int)) ++ bhd p) := ⟨_, rfl⟩
              have SU := Sum2 (.slice a7 10 c7) (.slice a8 (8 + n) c8) _ _ w5 I7'.out I8.out BA BB (by rw [ahd_len, bhd_len, ← HN.out]; omega)
              rw [← hc] at SU
              have HSU := hide SU
              have HC := hide hc
              clear BA BB SU hc mbt
              go_wp2_with fail
              refine HSU.out.mono ?_
              rintro _ w6 ⟨rfl, b6⟩
              have I7b := hide (I7'.out.later b6)
              have I8b := hide (I8.out.later b6)
              have B6 : Hid (Below w.heap.size w w6) := B5.out.trans (b6.mono B5.out.size)
              clear b6 HSU I7' I8 B5
              go_wp2_with fail
              refine (number_any c w6).mono ?_
              rintro _ w7 ⟨vn, rfl, hvn, b7⟩
              obtain ⟨an, cn, rfl, _⟩ := hvn.isB.shape
              have J := join_lit [.slice a7 10 c7, .slice an 2 cn, .slice a8 (8 + n) c8, .slice ab bl cb] [ahd p (20 + (n : Int) + (bl : Int)), put16 c, bhd p, b] w7 rfl (fun j hj => by
                match j, hj with
                | 0, _ => exact I7b.out.later b7
                | 1, _ => exact hvn.isB
                | 2, _ => exact I8b.out.later b7
                | 3, _ => exact HBV.out.later (B6.out.trans (b7.mono B6.out.size))) (by simp) (by
                have := enB_len p b
                unfold enB at this
                rw [← HN.out, ← HBL.out, ← HC.out] at this
                rw [this]
                omega)
              have HJ := hide J
              have B7 : Hid (Below w.heap.size w w7) := B6.out.trans (b7.mono B6.out.size)
              have EB : Hid ([ahd p (20 + (n : Int) + (bl : Int)), put16 c, bhd p, b].flatten = enB p b) := by unfold Hid enB; rw [← HN.out, ← HBL.out, ← HC.out]
              clear J b7 hvn I7b I8b
              go_wp2_with fail
              refine HJ.out.mono ?_
              rintro _ w8 ⟨v8, rfl, g8, b8⟩
              rw [EB.out] at g8
              have G8 : Hid (Gro w.heap.size w8 v8 (enB p b)) := g8.low B7.out.size
              have B8' : Hid (Below w.heap.size w w8) := B7.out.trans (b8.mono B7.out.size)
              obtain ⟨a9, c9, e9, _⟩ := g8.isB.shape
              clear g8 b8 HJ
              subst e9
              go_wp2
              refine bodyPost_ret (v := .tuple #[.slice a9 (enB p b).length c9, .int .i64 0]) (by simp [results, go_sem]) rfl ?_
              exact ⟨B8'.out, .inl ⟨E1.out, _, rfl, G8.out⟩⟩
    · have E1 : Hid (E0 = 92) := BAD.out (by rw [OPB.out, decide_eq_false h4]; simp)
      have q4 : ((n : Int).tmod 4 != 0) = true := by
        rw [Int.tmod_eq_emod_of_nonneg (by omega)]
        have : (n : Int) % 4 ≠ 0 := by omega
        simpa using this
      have q4' : ((n : Int) % 4 != 0) = true := by
        have : (n : Int) % 4 ≠ 0 := by omega
        simpa using this
      go_wp2
      refine bodyPost_ret (v := .tuple #[.slice none 0 0, .int .i64 92]) (by simp [results, go_sem]) rfl ?_
      exact ⟨HB2.out, .inr ⟨by rw [E1.out]; decide, by rw [E1.out]⟩⟩
end Go.Proofs.Ytiglejmmdghmgaa
