
/-
  EtherPads, walked: how long a frame is, and what stands behind what it carries.
-/
import Derived.Test.YtipebfaappangaaERow
namespace Go.Proofs.Ytipebfaappangaa
open Go.RowKit

/-- the string of these bytes -/
def strB (bs : List Int) : ByteArray := bs.foldl (fun r n => r.push (UInt8.ofNat n.toNat)) ByteArray.empty

theorem conv_str {A : Nat → Prop} {W : World} {v : Value} {bs : List Int} (h : IsF A W v bs) : (convert 26 9 v).run Try.prog W = .ok (.string (strB bs)) W := by
  obtain ⟨a, cap, rfl, hl, hn, hc⟩ := h
  rw [run_convert_bytes_string (P := Try.prog) W 26 9 5 a bs.length cap Try.underlying26 Try.underlying5 Try.underlying9]
  cases a with
  | none =>
    have h0 := hn rfl
    have : bs = [] := List.eq_nil_of_length_eq_zero (by omega)
    subst this
    rfl
  | some ad =>
    refine run_bytesToString W ad bs.length cap bs ?_
    have := run_loadCells_list (P := Try.prog) W ad (bs.map (Value.int .u8)) (fun j v hv => by
      have hj : j < bs.length := by have := (List.getElem?_eq_some_iff.1 hv).1; simpa using this
      obtain ⟨b, off, e, _, _, hcs⟩ := hc (by omega)
      cases e
      rw [Addr.add_lit, hcs j hj]
      simp only [List.getElem?_map, List.getElem?_eq_getElem hj, Option.map_some, Option.some.injEq] at hv
      simp [List.getElem?_eq_getElem hj, hv])
    simpa using this

theorem enH_len (f : Fr) : (enH f).length = hsz f.tag := by
  unfold enH enT hsz
  split <;> simp [mL, put16]
theorem enE_cases (f : Fr) (n : Nat) : enE f n ≠ 0 ∨ (enE f n = 0 ∧ mbB f = true ∧ n ≤ 256) := by
  unfold enE
  cases mbB f
  · left; simp
  · by_cases h : 256 < n
    · left; simp [h]
    · right; exact ⟨by simp [h], rfl, by omega⟩
theorem enB_yes {f : Fr} {bs : List Int} (h : enE f bs.length = 0) : enB f bs = pad (enH f ++ bs) := by rw [enB, if_pos h]
theorem enB_no {f : Fr} {bs : List Int} (h : enE f bs.length ≠ 0) : enB f bs = [] := by rw [enB, if_neg h]
theorem pad_len (L : List Int) : (pad L).length = max 60 L.length := by unfold pad; simp; omega
theorem pad_take (L : List Int) (k : Nat) (h : k ≤ L.length) : (pad L).take k = L.take k := by unfold pad; rw [List.take_append_of_le_length h]
theorem pad_zero (L : List Int) (j : Nat) (h : L.length ≤ j) : (pad L)[j]?.getD 0 = 0 := by
  unfold pad
  rw [List.getElem?_append_right h]
  cases e : (List.replicate (60 - L.length) (0 : Int))[j - L.length]? with
  | none => rfl
  | some x =>
    have := List.mem_of_getElem? e
    rw [List.mem_replicate] at this
    simp [this.2]

set_option maxHeartbeats 4000000 in
theorem pads_no (f : Fr) (v : Value) (bs : List Int) (w : World) (hv : IsF (fun _ => False) w v bs) (h : enE f bs.length ≠ 0) :
    Calls Try.prog 7 #[f.val, v] w fun e w' => e = .returned (.bool true) ∧ Below w.heap.size w w' := by
  obtain ⟨a, cap, rfl, hcap, -⟩ := hv.shape
  have B2 := hide (later_alloc w (.cells f.cells 25))
  have F2 := hide (FrAt.new w f 25)
  have HV := hide hv
  have EB := hide (enB_no h)
  obtain ⟨n, hn⟩ : ∃ n, n = bs.length := ⟨_, rfl⟩
  obtain ⟨e0, he⟩ : ∃ e0, enE f bs.length = e0 := ⟨_, rfl⟩
  rw [he] at h
  have HE := hide he
  rw [← hn] at HV ⊢
  have q : (e0 != 0) = true := by simpa using h
  simp only [Fr.val]
  clear hv he h hcap hn
  go_enter Try.func7, Try.ntmps7
  go_wp2_with fail
  refine (awake_any _).mono ?_
  rintro e w3 ⟨rfl, b3⟩
  have F3 := hide (F2.out.later b3)
  have B3 := hide (later B2.out b3)
  have CE := hide (Encode_any (f := f) (HV.out.later B3.out))
  clear F2 B2 b3
  go_wp2_with (refine wpList_load_fr rfl _ rfl w.heap.size rfl f F3.out ?_)
  refine CE.out.mono ?_
  rintro e w4 ⟨a4, c4, rfl, g4, b4⟩
  rw [EB.out, HE.out]
  go_wp2
  go_ret
  exact ⟨rfl, later B3.out b4⟩

set_option maxRecDepth 100000 in
set_option maxHeartbeats 4000000 in
theorem pads_yes (f : Fr) (v : Value) (bs : List Int) (w : World) (hv : IsF (fun _ => False) w v bs) (h : enE f bs.length = 0) (h256 : bs.length ≤ 256) :
    Calls Try.prog 7 #[f.val, v] w fun e w' => e = .returned (.bool true) ∧ Below w.heap.size w w' := by
  obtain ⟨a, cap, rfl, hcap, -⟩ := hv.shape
  have B2 := hide (later_alloc w (.cells f.cells 25))
  have F2 := hide (FrAt.new w f 25)
  have HV := hide hv
  have EB := hide (enB_yes h)
  have HE := hide h
  have LH := hide (enH_len f)
  obtain ⟨n, hn⟩ : ∃ n, n = bs.length := ⟨_, rfl⟩
  rw [← hn] at HV ⊢
  have HN := hide hn
  have n1 : (n : Int) ≤ 256 := by omega
  simp only [Fr.val]
  clear hv h hcap hn h256
  go_enter Try.func7, Try.ntmps7
  go_wp2_with fail
  refine (awake_any _).mono ?_
  rintro e w3 ⟨rfl, b3⟩
  have F3 := hide (F2.out.later b3)
  have B3 := hide (later B2.out b3)
  have CE := hide (Encode_any (f := f) (HV.out.later B3.out))
  clear F2 B2 b3
  go_wp2_with (refine wpList_load_fr rfl _ rfl w.heap.size rfl f F3.out ?_)
  refine CE.out.mono ?_
  rintro e w4 ⟨a4, c4, rfl, g4, b4⟩
  obtain ⟨X, hX⟩ : ∃ X, enB f bs = X := ⟨_, rfl⟩
  rw [hX] at EB g4 ⊢
  rw [HE.out]
  have F4 := hide (F3.out.later b4)
  have V4 := hide (HV.out.later (later B3.out b4))
  have B4 := hide (later B3.out b4)
  have X4 := hide (g4.isF (A := fun _ => False) (fun _ _ => id))
  clear F3 B3 CE b4 g4 hX
  obtain ⟨t, ht⟩ : ∃ t, f.tag = t := ⟨_, rfl⟩
  have c12 := F4.out.c12
  rw [ht] at c12 LH
  clear ht
  obtain ⟨k, hk⟩ : ∃ k, hsz t = k := ⟨_, rfl⟩
  have HK := hide hk
  obtain ⟨p, hp⟩ : ∃ p, k + n = p := ⟨_, rfl⟩
  have HP := hide hp
  clear hp
  go_upto_if 29 with fail
  go_cut [8] (fun v8 wc => v8 = .int .i64 (p : Int) ∧ w4 = wc)
  case first =>
    cases t
    · obtain rfl : k = 14 := hk.symm
      clear hk
      go_wp2
      go_meet
      case rel => exact ⟨by show _ = _; congr 1; have := HP.out; omega, rfl⟩
    · obtain rfl : k = 18 := hk.symm
      clear hk
      go_wp2
      go_meet
      case rel => exact ⟨by show _ = _; congr 1; have := HP.out; omega, rfl⟩
  case rest =>
    obtain ⟨rfl, hw4⟩ := hcut
    subst hw4
    have hk14 : 14 ≤ k ∧ k ≤ 18 := by rw [← HK.out]; unfold hsz; split <;> omega
    obtain ⟨k1, k2⟩ := hk14
    have lX : Hid (X.length = max 60 p) := by show _ = _; rw [EB.out, pad_len, List.length_append, LH.out, HK.out, ← HN.out, HP.out]
    have tX : Hid ((X.drop k).take n = bs) := by
      show _ = _
      have e1 : X.take (k + n) = (enH f ++ bs).take (k + n) := by rw [EB.out]; exact pad_take _ _ (by rw [List.length_append, LH.out, HK.out, ← HN.out]; omega)
      have e2 : (X.drop k).take n = (X.take (k + n)).drop k := by rw [List.drop_take]; congr 1; omega
      rw [e2, e1, List.take_of_length_le (by rw [List.length_append, LH.out, HK.out, ← HN.out]; omega), List.drop_left' (by rw [LH.out, HK.out])]
    have zX : Hid (∀ j, p ≤ j → X[j]?.getD 0 = 0) := fun j hj => by rw [EB.out]; exact pad_zero _ _ (by rw [List.length_append, LH.out, HK.out, ← HN.out]; have := HP.out; omega)
    obtain ⟨b, off, ea, hc⟩ : ∃ b off, a4 = some ⟨b, off, none⟩ ∧ Hid (X.length ≤ c4 ∧ ∀ j, j < X.length → w4.cell? ⟨b, off + j, none⟩ = some (.int .u8 (X[j]?.getD 0))) := by
      obtain ⟨a', c', e, h1, _, h2⟩ := X4.out
      obtain ⟨b, off, rfl, _, _, hcs⟩ := h2 (by rw [lX.out]; omega)
      simp only [Value.slice.injEq] at e
      obtain ⟨e1, _, e2⟩ := e
      exact ⟨b, off, e1, by rw [e2]; exact ⟨h1, hcs⟩⟩
    subst ea
    have hc4 := hc.out.1
    obtain ⟨L, hL⟩ : ∃ L, X.length = L := ⟨_, rfl⟩
    have XX := hide (((X4.out.drop k (by rw [lX.out]; omega)).take n (by rw [List.length_drop, lX.out]; have := HP.out; omega)))
    rw [tX.out, if_neg (by rw [lX.out] at hc4; omega), Option.map_some, Addr.add_lit] at XX
    rw [hL] at hc4 lX ⊢
    have HL := hide hL
    have ck : ¬ c4 = k := by have := lX.out; omega
    have lc : (L : Int) ≤ (c4 : Int) := by omega
    have d1 : p - k = n := by have := HP.out; omega
    have d2 : (p : Int) - (n : Int) = (k : Int) := by have := HP.out; omega
    have d3 : IntKind.i64.wrap (k : Int) = (k : Int) := by rw [IntKind.wrap_i64]; omega
    have d4 : (k : Int) ≤ (p : Int) := by omega
    have d5 : (p : Int) ≤ (L : Int) := by have := lX.out; omega
    have d6 : (p : Int) ≤ (c4 : Int) := by omega
    have cx : ∀ m, (convert 26 9 (.slice (some ⟨b, off + k, none⟩) n (c4 - k))).run Try.prog (w4.drewN m) = .ok (.string (strB bs)) (w4.drewN m) := fun m => conv_str (XX.out.later (later_drewN _ m))
    have cv : ∀ m, (convert 26 9 (.slice a n cap)).run Try.prog (w4.drewN m) = .ok (.string (strB bs)) (w4.drewN m) := fun m => conv_str (V4.out.later (later_drewN _ m))
    generalize strB bs = sb at cx cv
    have l60 : (60 : Int) ≤ (L : Int) := by have := lX.out; omega
    have l274 : (L : Int) ≤ 274 := by have := lX.out; omega
    clear hL hk c12 hc4
    go_upto_region 8 with fail
    go_cut [71] (fun c wx => c = .bool false ∧ Hid (Below w4.heap.size w4 wx))
    case first =>
      by_cases hp60 : 60 < p
      · obtain rfl : L = p := by have := lX.out; omega
        have p1 : (60 : Int) < (L : Int) := by omega
        have r1 : decide ((L : Int) < 60) = false := decide_eq_false (by omega)
        have r2 : decide ((274 : Int) < (L : Int)) = false := decide_eq_false (by omega)
        have r3 : decide ((60 : Int) < (L : Int)) = true := decide_eq_true (by omega)
        have r4 : decide ((L : Int) ≤ 60) = false := decide_eq_false (by omega)
        go_quiet (fail)
        go_wp2
        go_meet
        case rel => exact ⟨rfl, later_drewN _ _⟩
      · obtain rfl : L = 60 := by have := lX.out; omega
        have p1 : (p : Int) ≤ 60 := by omega
        have r3 : decide ((60 : Int) < (p : Int)) = false := decide_eq_false (by omega)
        have r4 : decide ((p : Int) ≤ 60) = true := decide_eq_true (by omega)
        go_quiet (fail)
        go_wp2
        go_meet
        case rel => exact ⟨rfl, later_drewN _ _⟩
    case rest =>
      obtain ⟨rfl, bx⟩ := hcut
      have hcx : Hid (∀ j, j < L → wc.cell? ⟨b, off + j, none⟩ = some (.int .u8 (X[j]?.getD 0))) := fun j hj => by
        have h1 := hc.out.2 j (by rw [HL.out]; exact hj)
        exact (bx.out.cell (p := ⟨b, off + j, none⟩) (World.block_lt_of_cell? _ _ h1)).trans h1
      have BX := hide (later B4.out bx.out)
      clear cx cv XX X4 V4 F4 B4 hc bx tX
      go_wp2
      go_loop [9] (fun v9 => ∃ i : Nat, v9 = .int .i64 (i : Int) ∧ p ≤ i ∧ i ≤ L) (fun v9 => L - (intOf v9).toNat)
      case atStart => exact ⟨p, rfl, Nat.le_refl _, by omega⟩
      case round =>
        obtain ⟨i, rfl, hi1, hi2⟩ := hrel
        by_cases hlt : i < L
        · have c := hcx.out i hlt
          rw [zX.out i hi1] at c
          have hi3 : (i : Int) < (L : Int) := by omega
          clear hi2
          go_wp2
          go_round
          case rel => exact ⟨i + 1, by go_num, by omega, by omega⟩
          case measure => simp [intOf]; omega
        · obtain rfl : i = L := by omega
          go_wp2
          go_ret
          exact ⟨rfl, BX.out⟩

theorem pads_row (f : Fr) (v : Value) (bs : List Int) (w : World) (_ : f.Ok) (hv : IsF (fun _ => False) w v bs) (_ : Bytes bs) (_ : bs.length ≤ 140737488351232) :
    Calls Try.prog 7 #[f.val, v] w fun e w' => e = .returned (.bool true) ∧ Below w.heap.size w w' := by
  rcases enE_cases f bs.length with h | ⟨h, _, h2⟩
  · exact pads_no f v bs w hv h
  · exact pads_yes f v bs w hv h h2

end Go.Proofs.Ytipebfaappangaa
