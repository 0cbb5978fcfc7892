
/-
  The document's Decode, where there are bytes enough.
-/
import Derived.Test.YtjaodjlgnclkhaaA44
namespace Go.Proofs.Ytjaodjlgnclkhaa
open Go.RowKit Go.Shelf

set_option maxRecDepth 100000 in
set_option maxHeartbeats 8000000 in
theorem rDecode_long {A : Nat → Prop} {w : World} {v : Value} {bs : List Int} (h : IsF A w v bs) (hB : Bytes bs) (h28 : 28 ≤ bs.length) : Calls Try.prog 12 #[v] w (DeEnd w bs) := by
  obtain ⟨gb, off, vc, rfl, hvc⟩ : ∃ gb off vc, v = .slice (some ⟨gb, off, none⟩) bs.length vc ∧ bs.length ≤ vc := by
    obtain ⟨va, vc, e, hl, _, hc⟩ := h
    obtain ⟨b, off, e1, _⟩ := hc (by omega)
    exact ⟨b, off, vc, by rw [e, e1], hl⟩
  obtain ⟨n, hn⟩ : ∃ n, n = bs.length := ⟨_, rfl⟩
  rw [← hn] at h hvc ⊢
  have n28 : (28 : Int) ≤ (n : Int) := by omega
  obtain ⟨s, hs⟩ : ∃ s, s = w.heap.size := ⟨_, rfl⟩
  obtain ⟨W1, hW1⟩ : ∃ W1, W1 = w.alloc (.cells zA.vals.toArray 27) := ⟨_, rfl⟩
  have b1 : Below s w W1 := by rw [hW1, hs]; exact (Below.refl _ _).alloc (Nat.le_refl _) _
  have z1 : W1.heap.size = s + 1 := by rw [hW1, hs]; simp
  have c1 : CellsAt W1 s 0 zA.vals := by rw [hW1, hs]; exact CellsAt.new w _ _
  have f1 : ∀ y, W1.frozen? ⟨s, y, none⟩ = false := fun y => by rw [hW1, hs]; exact frozen_new w _ _ _
  obtain ⟨s4, hs4⟩ : ∃ s4, s4 = W1.heap.size := ⟨_, rfl⟩
  obtain ⟨W2, hW2⟩ : ∃ W2, W2 = W1.alloc (.cells zA.vals.toArray 27) := ⟨_, rfl⟩
  have b2 : Below W1.heap.size W1 W2 := by rw [hW2]; exact (Below.refl _ _).alloc (Nat.le_refl _) _
  have z2 : W2.heap.size = s4 + 1 := by rw [hW2, hs4]; simp
  have c2 : CellsAt W2 s4 0 zA.vals := by rw [hW2, hs4]; exact CellsAt.new W1 _ _
  have f2 : ∀ y, W2.frozen? ⟨s4, y, none⟩ = false := fun y => by rw [hW2, hs4]; exact frozen_new W1 _ _ _
  have R2 : RSt w s s4 zA W2 := ⟨c1.later (by omega) b2, fun y => (b2.frozen (p := ⟨s, y, none⟩) (by show s < _; omega)).trans (f1 y), c2, f2, ⟨by omega, by omega⟩, b1.trans (b2.mono (by omega))⟩
  obtain ⟨an, han⟩ : ∃ an, an = decide (nb bs 7 = 2) := ⟨_, rfl⟩
  obtain ⟨W3, hW3⟩ : ∃ W3, W3 = W2.setCells s4 0 (Ar.vals ⟨an, zM, zI, zM, zI⟩) := ⟨_, rfl⟩
  have R3 : RSt w s s4 (aK bs an 0 0 0 0) W3 := by
    have bo := But.cells s4 (Ar.vals ⟨an, zM, zI, zM, zI⟩) 0 W2
    rw [hW3]
    exact ⟨R2.cz.but (by omega) bo (fun e => by have e : s = s4 := e; omega), fun y => (bo.frozen (p := ⟨s, y, none⟩) (by show s < _; omega) (fun e => by have e : s = s4 := e; omega)).trans (R2.fz y), c2.stored rfl, fun y => by rw [World.frozen?_setCells]; exact f2 y, ⟨by omega, Nat.lt_of_lt_of_le (by omega) bo.size⟩, R2.b.trans (bo.below (by omega) (fun g hg e => by have e : g = s4 := e; omega))⟩
  have HF : Hid (∀ W, Below s w W → IsF A W (.slice (some ⟨gb, off, none⟩) n vc) bs) := fun W hb => h.later (hs ▸ hb)
  have CB : Hid (∀ W, Below s w W → ∀ j, j < 28 → W.cell? ⟨gb, off + j, none⟩ = some (.int .u8 (nb bs j))) := fun W hb j hj => by
    obtain ⟨a', c', e, _, _, hc⟩ := HF.out W hb
    obtain ⟨b', o', e1, _, _, hcs⟩ := hc (by omega)
    rw [e1] at e
    cases e
    exact hcs j (by omega)
  have x7 : W1.cell? ⟨gb, off + 7, none⟩ = some (.int .u8 (nb bs 7)) := CB.out W1 b1 7 (by omega)
  obtain ⟨y7, hy7⟩ : ∃ y7, y7 = nb bs 7 := ⟨_, rfl⟩
  rw [← hy7] at x7
  have q7 : (y7 == 2) = an := by rw [hy7, han]; exact beq_dec _ _
  have C2 := hide c2
  have F2 := hide f2
  have HR3 := hide R3
  have HAN := hide han
  have HN := hide hn
  have H28 := hide h28
  have HVC := hide hvc
  have HBY := hide hB
  have hW1' := hW1.symm
  have hW2' := hW2.symm
  have hW3' := hW3.symm
  simp only [zA, zM, zI, Ar.vals, M6.vals, I4.vals, List.cons_append, List.nil_append] at hW1' hW2'
  have hs' := hs.symm
  have hs4' := hs4.symm
  have HS := hide hs
  obtain ⟨R, hR⟩ : ∃ R, R = DeEnd w bs := ⟨_, rfl⟩
  rw [← hR]
  have HR := hide hR
  clear h hB h28 hn hvc hW1 hW2 hW3 hs hs4 b1 z1 c1 f1 b2 z2 c2 f2 R2 R3 hR han hy7
  go_enter Try.func12, Try.ntmps12
  go_wp2_with (refine wpList_storeA rfl 27 21 sizA _ _ rfl s4 0 rfl (Ar.vals ⟨an, zM, zI, zM, zI⟩) zA.vals rfl rfl rfl C2.out F2.out (ar_one _) (fun _ => ?_))
  try rw [hW3']
  clear hW1' hW2' hW3' hs' hs4' x7 q7 C2 F2
  go_loopw [5] (fun v5 wr => ∃ k : Nat, v5 = .int .i64 (k : Int) ∧ k ≤ 6 ∧ Hid (RSt w s s4 (aK bs an k 0 k 0) wr)) (fun v5 _ => 6 - (intOf v5).toNat)
  case atStart => exact ⟨0, rfl, by omega, HR3.out⟩
  case round =>
    clear HR3
    obtain ⟨k, rfl, hk, ST⟩ := hrel
    by_cases hlt : k < 6
    · have zk : (k : Int) < 6 := by omega
      obtain ⟨u, hu⟩ : ∃ u, u = nb bs (8 + k) := ⟨_, rfl⟩
      obtain ⟨t, ht⟩ : ∃ t, t = nb bs (18 + k) := ⟨_, rfl⟩
      have xu := CB.out _ ST.out.b (8 + k) (by omega)
      rw [← hu] at xu
      have S1 := ST.out.put (a' := aK bs an (k + 1) 0 k 0) (1 + k) (by omega) (.int .u8 u) (by rw [hu]; exact aK_sm _ _ _ _ _ _ hlt)
      have xt := CB.out _ S1.b (18 + k) (by omega)
      rw [← ht] at xt
      have S2 := hide (S1.put (a' := aK bs an (k + 1) 0 (k + 1) 0) (11 + k) (by omega) (.int .u8 t) (by rw [ht]; exact aK_dm _ _ _ _ _ _ hlt))
      have i1 := ST.out.c4.is (1 + k) (by rw [ar_len]; omega)
      have f1 := ST.out.f4 (1 + k)
      have i2 := S1.c4.is (11 + k) (by rw [ar_len]; omega)
      have f2 := S1.f4 (11 + k)
      rw [Nat.zero_add] at i1 i2
      obtain ⟨o1, ho1⟩ := Option.isSome_iff_exists.1 i1
      obtain ⟨o2, ho2⟩ := Option.isSome_iff_exists.1 i2
      clear S1 ST hu ht hk i1 i2
      go_wp2
      go_roundw
      case rel => exact ⟨k + 1, by go_num, by omega, S2.out⟩
      case measure => simp [intOf]; omega
    · obtain rfl : k = 6 := by omega
      rw [show ((6 : Nat) : Int) = 6 from rfl]
      clear hk hlt
      go_wp2
      go_loopw [6] (fun v6 wr => ∃ k : Nat, v6 = .int .i64 (k : Int) ∧ k ≤ 4 ∧ Hid (RSt w s s4 (aK bs an 6 k 6 k) wr)) (fun v6 _ => 4 - (intOf v6).toNat)
      case atStart => exact ⟨0, rfl, by omega, ST.out⟩
      case round =>
        clear ST
        obtain ⟨k, rfl, hk, ST⟩ := hrel
        by_cases hlt : k < 4
        · have zk : (k : Int) < 4 := by omega
          obtain ⟨u, hu⟩ : ∃ u, u = nb bs (14 + k) := ⟨_, rfl⟩
          obtain ⟨t, ht⟩ : ∃ t, t = nb bs (24 + k) := ⟨_, rfl⟩
          have xu := CB.out _ ST.out.b (14 + k) (by omega)
          rw [← hu] at xu
          have S1 := ST.out.put (a' := aK bs an 6 (k + 1) 6 k) (7 + k) (by omega) (.int .u8 u) (by rw [hu]; exact aK_si _ _ _ _ _ _ hlt)
          have xt := CB.out _ S1.b (24 + k) (by omega)
          rw [← ht] at xt
          have S2 := hide (S1.put (a' := aK bs an 6 (k + 1) 6 (k + 1)) (17 + k) (by omega) (.int .u8 t) (by rw [ht]; exact aK_di _ _ _ _ _ _ hlt))
          have i1 := ST.out.c4.is (7 + k) (by rw [ar_len]; omega)
          have f1 := ST.out.f4 (7 + k)
          have i2 := S1.c4.is (17 + k) (by rw [ar_len]; omega)
          have f2 := S1.f4 (17 + k)
          rw [Nat.zero_add] at i1 i2
          obtain ⟨o1, ho1⟩ := Option.isSome_iff_exists.1 i1
          obtain ⟨o2, ho2⟩ := Option.isSome_iff_exists.1 i2
          clear S1 ST hu ht hk i1 i2
          go_wp2
          go_roundw
          case rel => exact ⟨k + 1, by go_num, by omega, S2.out⟩
          case measure => simp [intOf]; omega
        · obtain rfl : k = 4 := by omega
          rw [show ((4 : Nat) : Int) = 4 from rfl]
          obtain ⟨a, ha⟩ : ∃ a, a = rfA bs := ⟨_, rfl⟩
          have S4 : Hid (RSt w s s4 a wr) := by unfold Hid; rw [ha]; unfold rfA; rw [← HAN.out]; exact ST.out
          have C4 := hide S4.out.c4
          have b8 := nb_bd HBY.out 8
          have KE := hide (rEncode_any a (by rw [ha]; exact b8.1) wr)
          have RE := rf_eq HBY.out H28.out
          unfold rfB at RE
          rw [← ha] at RE
          have HRE := hide RE
          rw [show a.val = .agg a.vals.toArray from rfl] at KE
          have BYA : Hid (Bytes (arB a)) := by
            unfold Hid
            rw [ha]
            unfold arB
            split
            · exact Bytes.nil
            · intro x hx
              have hm : ∀ j, 0 ≤ nb bs j ∧ nb bs j ≤ 255 := nb_bd HBY.out
              simp only [hd8, arT, rfA, mL, iL, macAt, ipAt, List.mem_append, List.mem_cons, List.not_mem_nil, or_false] at hx
              rcases hx with hx | hx
              · rcases hx with rfl | rfl | rfl | rfl | rfl | rfl | rfl | rfl <;> (try split) <;> omega
              · rcases hx with (rfl | rfl | rfl | rfl | rfl | rfl) | (rfl | rfl | rfl | rfl) | (rfl | rfl | rfl | rfl | rfl | rfl) | (rfl | rfl | rfl | rfl) <;> exact hm _
          clear hk hlt b8 RE ST ha
          go_wp2_with (refine wpList_loadA rfl 27 21 aggA sizA _ rfl s4 0 rfl a.vals rfl C4.out ?_)
          refine KE.out.mono ?_
          rintro _ w5 ⟨ev, rfl, hG, b5⟩
          have S5 := hide (S4.out.later b5)
          obtain ⟨ea, ec, rfl, hle, _⟩ := (hG.isF (A := fun _ => False) (fun _ _ => id)).shape
          have G5 := hide hG
          obtain ⟨er, her⟩ : ∃ er, er = arE a := ⟨_, rfl⟩
          rw [← her]
          have HER := hide her
          obtain ⟨LA, hLA⟩ : ∃ LA, LA = arB a := ⟨_, rfl⟩
          rw [← hLA] at G5 hle BYA ⊢
          have HLA := hide hLA
          clear hG b5 KE S4 C4 her hLA
          go_upto_region 15 with fail
          have bd : Below w5.heap.size w5 w5.drew := (Below.refl _ w5).drew
          have SD := S5.out.later bd
          have SS : IsB w5.drew.heap.size w5.drew (.slice ea LA.length ec) LA ∧ IsB w5.drew.heap.size w5.drew (.slice (some ⟨gb, off, none⟩) 28 vc) (bs.take 28) := ⟨G5.out.isB.later bd, ((HF.out _ SD.b).take 28 H28.out).isB⟩
          obtain ⟨bad, hbad⟩ : ∃ bad, bad = (decide (er ≠ 0) || !decide (LA = bs.take 28)) := ⟨_, rfl⟩
          have HBAD := hide hbad
          have E01 : er = 0 ∨ er = 1 := by rw [HER.out]; unfold arE; split <;> simp
          have T28 : Bytes (bs.take 28) := HBY.out.take 28
          clear hbad hle G5
          go_cut [72] from 63 to 71 (fun v wx => v = .bool bad ∧ Hid (RSt w s s4 a wx))
          case first =>
            refine region_out (fun W => IsB W.heap.size W (.slice ea LA.length ec) LA ∧ IsB W.heap.size W (.slice (some ⟨gb, off, none⟩) 28 vc) (bs.take 28)) (by kernel_rfl) ?_
            rcases E01 with e1 | e1
            · subst e1
              have eb : (!decide (LA = bs.take 28)) = bad := by rw [HBAD.out]; simp
              refine takeD (i := 0) (v := .int .i64 0) 63 rfl rfl (by kernel_rfl) (by kernel_rfl) (by kernel_rfl) (fun _ _ _ h => h) (.inl ⟨by rfl, fun W hW => exec_move _ _ rfl rfl⟩) (SS) ?_
              try simp only [Act.put, List.setIfInBounds_toArray, List.set_cons_zero, List.set_cons_succ]
              refine takeD (i := 1) (v := .bool false) 64 rfl rfl (by kernel_rfl) (by kernel_rfl) (by kernel_rfl) (fun _ _ _ h => h) (.inl ⟨by rfl, fun W hW => exec_nee _ _ _ _ _ _ rfl rfl rfl rfl⟩) (SS) ?_
              try simp only [Act.put, List.setIfInBounds_toArray, List.set_cons_zero, List.set_cons_succ]
              refine takeD (i := 2) (v := .bool false) 65 rfl rfl (by kernel_rfl) (by kernel_rfl) (by kernel_rfl) (fun _ _ _ h => h) (.inl ⟨by rfl, fun W hW => exec_move _ _ rfl rfl⟩) (SS) ?_
              try simp only [Act.put, List.setIfInBounds_toArray, List.set_cons_zero, List.set_cons_succ]
              refine takeD (i := 3) (v := .slice ea LA.length ec) 66 rfl rfl (by kernel_rfl) (by kernel_rfl) (by kernel_rfl) (fun _ _ _ h => h) (.inl ⟨by rfl, fun W hW => exec_move _ _ rfl rfl⟩) (SS) ?_
              try simp only [Act.put, List.setIfInBounds_toArray, List.set_cons_zero, List.set_cons_succ]
              refine takeD (i := 4) (v := .string (strB LA)) 67 rfl rfl (by kernel_rfl) (by kernel_rfl) (by kernel_rfl) (fun _ _ _ h => h) (.inl ⟨by rfl, fun W hW => exec_str _ _ LA rfl rfl hW.1⟩) (SS) ?_
              try simp only [Act.put, List.setIfInBounds_toArray, List.set_cons_zero, List.set_cons_succ]
              refine takeD (i := 5) (v := .slice (some ⟨gb, off, none⟩) n vc) 68 rfl rfl (by kernel_rfl) (by kernel_rfl) (by kernel_rfl) (fun _ _ _ h => h) (.inl ⟨by rfl, fun W hW => exec_move _ _ rfl rfl⟩) (SS) ?_
              try simp only [Act.put, List.setIfInBounds_toArray, List.set_cons_zero, List.set_cons_succ]
              refine takeD (i := 6) (v := .slice (some ⟨gb, off, none⟩) 28 vc) 69 rfl rfl (by kernel_rfl) (by kernel_rfl) (by kernel_rfl) (fun _ _ _ h => h) (.inl ⟨by rfl, fun W hW => exec_slT _ _ gb off n vc 28 rfl rfl rfl (by omega) HVC.out (by have := HVC.out; omega)⟩) (SS) ?_
              try simp only [Act.put, List.setIfInBounds_toArray, List.set_cons_zero, List.set_cons_succ]
              refine takeD (i := 7) (v := .string (strB (bs.take 28))) 70 rfl rfl (by kernel_rfl) (by kernel_rfl) (by kernel_rfl) (fun _ _ _ h => h) (.inl ⟨by rfl, fun W hW => exec_str _ _ (bs.take 28) rfl rfl hW.2⟩) (SS) ?_
              try simp only [Act.put, List.setIfInBounds_toArray, List.set_cons_zero, List.set_cons_succ]
              refine takeD (i := 8) (v := .bool bad) 71 rfl rfl (by kernel_rfl) (by kernel_rfl) (by kernel_rfl) (fun _ _ _ h => h) (.inl ⟨by rfl, fun W hW => exec_nes _ _ _ LA (bs.take 28) _ rfl rfl rfl BYA.out T28 eb⟩) (SS) ?_
              try simp only [Act.put, List.setIfInBounds_toArray, List.set_cons_zero, List.set_cons_succ]
              refine takeD (i := 9) (v := .bool bad) 72 rfl rfl (by kernel_rfl) (by kernel_rfl) (by kernel_rfl) (fun _ _ _ h => h) (.inl ⟨by rfl, fun W hW => exec_pick _ _ _ false _ rfl rfl rfl⟩) (SS) ?_
              try simp only [Act.put, List.setIfInBounds_toArray, List.set_cons_zero, List.set_cons_succ]
              refine wpAnyH_done (by kernel_rfl) ?_ _
              have SD2 := hide SD
              clear SD SS S5
              go_wp2
              go_meet
              exact ⟨rfl, SD2⟩
            · subst e1
              have eb : true = bad := by rw [HBAD.out]; rfl
              subst eb
              refine takeD (i := 0) (v := .int .i64 1) 63 rfl rfl (by kernel_rfl) (by kernel_rfl) (by kernel_rfl) (fun _ _ _ h => h) (.inl ⟨by rfl, fun W hW => exec_move _ _ rfl rfl⟩) (SS) ?_
              try simp only [Act.put, List.setIfInBounds_toArray, List.set_cons_zero, List.set_cons_succ]
              refine takeD (i := 1) (v := .bool true) 64 rfl rfl (by kernel_rfl) (by kernel_rfl) (by kernel_rfl) (fun _ _ _ h => h) (.inl ⟨by rfl, fun W hW => exec_nee _ _ _ _ _ _ rfl rfl rfl rfl⟩) (SS) ?_
              try simp only [Act.put, List.setIfInBounds_toArray, List.set_cons_zero, List.set_cons_succ]
              refine takeD (i := 2) (v := .bool true) 65 rfl rfl (by kernel_rfl) (by kernel_rfl) (by kernel_rfl) (fun _ _ _ h => h) (.inl ⟨by rfl, fun W hW => exec_move _ _ rfl rfl⟩) (SS) ?_
              try simp only [Act.put, List.setIfInBounds_toArray, List.set_cons_zero, List.set_cons_succ]
              refine takeD (i := 3) (v := undef) 66 rfl rfl (by kernel_rfl) (by kernel_rfl) (by kernel_rfl) (fun _ _ _ h => h) (.inr ⟨by rfl, rfl⟩) (SS) ?_
              try simp only [Act.put, List.setIfInBounds_toArray, List.set_cons_zero, List.set_cons_succ]
              refine takeD (i := 4) (v := undef) 67 rfl rfl (by kernel_rfl) (by kernel_rfl) (by kernel_rfl) (fun _ _ _ h => h) (.inr ⟨by rfl, rfl⟩) (SS) ?_
              try simp only [Act.put, List.setIfInBounds_toArray, List.set_cons_zero, List.set_cons_succ]
              refine takeD (i := 5) (v := undef) 68 rfl rfl (by kernel_rfl) (by kernel_rfl) (by kernel_rfl) (fun _ _ _ h => h) (.inr ⟨by rfl, rfl⟩) (SS) ?_
              try simp only [Act.put, List.setIfInBounds_toArray, List.set_cons_zero, List.set_cons_succ]
              refine takeD (i := 6) (v := undef) 69 rfl rfl (by kernel_rfl) (by kernel_rfl) (by kernel_rfl) (fun _ _ _ h => h) (.inr ⟨by rfl, rfl⟩) (SS) ?_
              try simp only [Act.put, List.setIfInBounds_toArray, List.set_cons_zero, List.set_cons_succ]
              refine takeD (i := 7) (v := undef) 70 rfl rfl (by kernel_rfl) (by kernel_rfl) (by kernel_rfl) (fun _ _ _ h => h) (.inr ⟨by rfl, rfl⟩) (SS) ?_
              try simp only [Act.put, List.setIfInBounds_toArray, List.set_cons_zero, List.set_cons_succ]
              refine takeD (i := 8) (v := undef) 71 rfl rfl (by kernel_rfl) (by kernel_rfl) (by kernel_rfl) (fun _ _ _ h => h) (.inr ⟨by rfl, rfl⟩) (SS) ?_
              try simp only [Act.put, List.setIfInBounds_toArray, List.set_cons_zero, List.set_cons_succ]
              refine takeD (i := 9) (v := .bool true) 72 rfl rfl (by kernel_rfl) (by kernel_rfl) (by kernel_rfl) (fun _ _ _ h => h) (.inl ⟨by rfl, fun W hW => exec_pick _ _ _ true _ rfl rfl rfl⟩) (SS) ?_
              try simp only [Act.put, List.setIfInBounds_toArray, List.set_cons_zero, List.set_cons_succ]
              refine wpAnyH_done (by kernel_rfl) ?_ _
              have SD2 := hide SD
              clear SD SS S5
              go_wp2
              go_meet
              exact ⟨rfl, SD2⟩
          case rest =>
            obtain ⟨rfl, DF⟩ := hcut
            obtain ⟨x5, hx5⟩ : ∃ x5, x5 = wc := ⟨_, rfl⟩
            rw [← hx5] at DF ⊢
            clear hx5 SD SS S5
            have CZ := hide DF.out.cz
            have FZ := hide DF.out.fz
            have C5 := hide DF.out.c4
            have FIN : ∀ a : Ar, Hid (Below s w (x5.setCells s 0 a.vals)) ∧ Hid (CellsAt (x5.setCells s 0 a.vals) s 0 a.vals) := fun a => by
              have hl := DF.out.lt
              have bo := But.cells s a.vals 0 x5
              exact ⟨DF.out.b.trans (bo.below (by omega) (fun g hg e => by have e : g = s := e; omega)), DF.out.cz.stored rfl⟩
            obtain ⟨FB, FC⟩ := FIN zA
            obtain ⟨GB, GC⟩ := FIN a
            have RE := HRE.out
            rw [← HLA.out, ← HER.out, ← HBAD.out] at RE
            clear FIN DF
            cases bad with
            | true =>
              have FE := hide (DeEnd.no (w := w) (by decide) RE.1 (by rw [← HS.out]; exact FB.out))
              rw [if_pos rfl, ← HR.out] at FE
              clear RE E01 T28
              go_wp2_with (refine wpList_storeA rfl 27 21 sizA _ _ rfl s 0 rfl zA.vals zA.vals rfl rfl rfl CZ.out FZ.out (ar_one _) (fun _ => ?_))
              refine bodyPost_ret (v := .tuple #[zA.val, .int .i64 4]) ?_ rfl FE.out
              exact results_2 rfl _ _ s _ _ rfl rfl (run_loadVarA 27 21 aggA sizA s 0 _ rfl FC.out)
            | false =>
              have FE : Hid (R (.returned (.tuple #[a.val, .int .i64 0])) (x5.setCells s 0 a.vals)) := by
                unfold Hid
                have e0 : deE bs = 0 := RE.1
                rw [HR.out]
                refine ⟨?_, by rw [← HS.out]; exact GB.out⟩
                unfold deR
                rw [e0, if_pos rfl, RE.2 rfl]
              clear RE E01 T28
              go_wp2_with (first | refine wpList_loadA rfl 27 21 aggA sizA _ rfl s4 0 rfl a.vals rfl C5.out ?_ | refine wpList_storeA rfl 27 21 sizA _ _ rfl s 0 rfl a.vals zA.vals rfl rfl rfl CZ.out FZ.out (ar_one _) (fun _ => ?_))
              refine bodyPost_ret (v := .tuple #[a.val, .int .i64 0]) ?_ rfl FE.out
              exact results_2 rfl _ _ s _ _ rfl rfl (run_loadVarA 27 21 aggA sizA s 0 _ rfl GC.out)
theorem rDecode_any {A : Nat → Prop} {w : World} {v : Value} {bs : List Int} (h : IsF A w v bs) (hB : Bytes bs) : Calls Try.prog 12 #[v] w (DeEnd w bs) := by
  by_cases h28 : bs.length < 28
  · exact rDecode_short h h28
  · exact rDecode_long h hB (by omega)
end Go.Proofs.Ytjaodjlgnclkhaa
