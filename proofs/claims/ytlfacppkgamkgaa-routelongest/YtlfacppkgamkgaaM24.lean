
/-
  RouteLongest: the walk.
-/
import Derived.Test.YtlfacppkgamkgaaM23
import Derived.Test.YtlfacppkgamkgaaM21
namespace Go.Proofs.Ytlfacppkgamkgaa
open Go.RowKit Go.Shelf

def InAt (W : World) (s : Nat) (f : Nat → Bool) : Prop := (∀ m, m < 33 → W.cell? ⟨s, m, none⟩ = some (.bool (f m))) ∧ ∀ m, W.frozen? ⟨s, m, none⟩ = false
theorem InAt.but {K : Nat → Prop} {W W' : World} {s : Nat} {f : Nat → Bool} (h : InAt W s f) (hb : But K W W') (hk : ¬ K s) : InAt W' s f := by
  have hl : s < W.heap.size := World.block_lt_of_cell? W _ (h.1 0 (by omega))
  exact ⟨fun m hm => (hb.cell (p := ⟨s, m, none⟩) hl hk).trans (h.1 m hm), fun m => (hb.frozen (p := ⟨s, m, none⟩) hl hk).trans (h.2 m)⟩
theorem InAt.put {W : World} {s : Nat} {ns : List Nat} {k : Nat} (h : InAt W s (fun m => decide (m ∈ ns))) (hk : k < 33) : InAt (W.setCell ⟨s, k, none⟩ (.bool true)) s (fun m => decide (m ∈ ns ++ [k])) := by
  refine ⟨fun m hm => ?_, fun m => by rw [World.frozen?_setCell]; exact h.2 m⟩
  by_cases e : m = k
  · subst e
    rw [World.cell?_setCell_same _ _ _ (h.1 m hm)]
    simp
  · rw [setCell_out e, h.1 m hm]
    simp [e]
structure LgI (ip : I4) (rb s7 : Nat) (w4 : World) (N : Int) (ns : List Nat) (W : World) : Prop where
  nd : ns.Nodup
  le : ∀ k ∈ ns, k ≤ 32
  len : ns.length ≤ 8
  rt : Rt W (rb + 1) rb (ns.map (wyN ip)) N
  inn : InAt W s7 (fun m => decide (m ∈ ns))
  but : But (fun g => Two (rb + 1) rb g ∨ g = s7) w4 W
theorem LgI.keep {ip : I4} {rb s7 : Nat} {w4 : World} {N : Int} {ns : List Nat} {W W' : World} {K : Nat → Prop} (h : LgI ip rb s7 w4 N ns W) (hb : But K W W') (h1 : ∀ g, K g → w4.heap.size ≤ g) (hr : rb + 1 < w4.heap.size) (hs : s7 < w4.heap.size) : LgI ip rb s7 w4 N ns W' :=
  ⟨h.nd, h.le, h.len, h.rt.but hb (fun e => by have := h1 _ e; omega) (fun e => by have := h1 _ e; omega), h.inn.but hb (fun e => by have := h1 _ e; omega), h.but.trans' hb (fun g hg e => by have := h1 _ e; omega)⟩
set_option maxRecDepth 100000 in
set_option maxHeartbeats 16000000 in
theorem Longest_walk (ip : I4) (lv : Value) (l : List Int) (w : World) (hip : ip.Ok) (hl : IsI w.heap.size w lv l) (ll : l.length ≤ 140737488351232) :
    Calls Try.prog 4 #[ip.val, lv] w fun e w' => e = .returned (.bool true) ∧ Below w.heap.size w w' := by
  obtain ⟨la, lc, rfl, hlc⟩ := hl
  obtain ⟨n, hn⟩ : ∃ n, n = l.length := ⟨_, rfl⟩
  rw [← hn] at hlc ll ⊢
  obtain ⟨s, hs⟩ : ∃ s, s = w.heap.size := ⟨_, rfl⟩
  obtain ⟨V, hV⟩ : ∃ V, V = ip.vals := ⟨_, rfl⟩
  obtain ⟨w1, hw1⟩ : ∃ w1, w1 = w.alloc (.cells V.toArray 31) := ⟨_, rfl⟩
  have b1 : Below w.heap.size w w1 := by rw [hw1]; exact (Below.refl _ w).alloc (Nat.le_refl _) _
  have c1 : CellsAt w1 s 0 V := by rw [hw1, hs]; exact CellsAt.new w V 31
  have LV : Hid (V.length = 4) := by rw [hV]; exact (rfl : ip.vals.length = 4)
  have OV : Hid (∀ u ∈ V, u.oneCell' = true) := by rw [hV]; exact ip_one ip
  have EV : Hid (ip.val = .agg V.toArray) := by rw [hV]; exact rfl
  have l1 : s < w1.heap.size := c1.lt (by rw [LV.out]; decide)
  rw [EV.out]
  have HB1 := hide b1
  have C1 := hide c1
  have HV := hide hV
  have HIP := hide hip
  have HLC := hide hlc
  have HN := hide hn
  have HS := hide hs
  have lz : (n : Int) ≤ 140737488351232 := by omega
  have hw1' := hw1.symm
  have hs' := hs.symm
  clear b1 c1 hV hip hlc hn hw1 hs
  go_enter Try.func4, Try.ntmps4
  go_wp2_with fail
  clear hw1' hs'
  refine (awake_any w1).mono ?_
  rintro _ w2 ⟨rfl, b2⟩
  have HB2 : Hid (Below w.heap.size w w2) := later HB1.out b2
  have C2 := hide (C1.out.later l1 b2)
  have l2 : s < w2.heap.size := Nat.lt_of_lt_of_le l1 b2.size
  have NW := hide (New_any w2)
  obtain ⟨rb, hrb⟩ : ∃ rb, rb = w2.heap.size := ⟨_, rfl⟩
  rw [← hrb] at NW
  have HRB := hide hrb
  clear b2 C1 HB1 l1 hrb
  go_wp2_with fail
  refine NW.out.mono ?_
  rintro _ w3 ⟨rfl, r3, b3⟩
  have HB3 : Hid (Below w.heap.size w w3) := HB2.out.trans (b3.mono (by have := HB2.out.size; have := HRB.out; omega))
  have C3 := hide (C2.out.but (K := fun _ => False) l2 ⟨b3.os, b3.tape, b3.output, b3.size, fun k hk _ => b3.block k (by have := HRB.out; omega)⟩ id)
  have l3 : s < w3.heap.size := Nat.lt_of_lt_of_le l2 b3.size
  have sb : s < rb := by have := HRB.out; omega
  have rl := r3.lt.1
  -- which are in
  obtain ⟨s7, hs7⟩ : ∃ s7, s7 = w3.heap.size := ⟨_, rfl⟩
  obtain ⟨w4, hw4⟩ : ∃ w4, w4 = w3.alloc (.cells #[.bool false, .bool false, .bool false, .bool false, .bool false, .bool false, .bool false, .bool false, .bool false, .bool false, .bool false, .bool false, .bool false, .bool false, .bool false, .bool false, .bool false, .bool false, .bool false, .bool false, .bool false, .bool false, .bool false, .bool false, .bool false, .bool false, .bool false, .bool false, .bool false, .bool false, .bool false, .bool false, .bool false] 44) := ⟨_, rfl⟩
  have b4 : Below w3.heap.size w3 w4 := by rw [hw4]; exact (Below.refl _ _).alloc (Nat.le_refl _) _
  have i4 : InAt w4 s7 (fun m => decide (m ∈ ([] : List Nat))) := by
    refine ⟨fun m hm => ?_, fun m => by rw [hw4, hs7]; exact frozen_new w3 _ _ _⟩
    have h := CellsAt.new w3 (List.replicate 33 (.bool false)) 44
    have h2 := h m (.bool false) (by rw [List.getElem?_replicate, if_pos hm])
    rw [hw4, hs7]
    simpa using h2
  have HB4 : Hid (Below w.heap.size w w4) := later HB3.out b4
  have C4 := hide (C3.out.later l3 b4)
  have l4 : s < w4.heap.size := Nat.lt_of_lt_of_le l3 b4.size
  have r4 : rb + 1 < w4.heap.size := Nat.lt_of_lt_of_le rl b4.size
  have s4 : s7 < w4.heap.size := World.block_lt_of_cell? w4 _ (i4.1 0 (by omega))
  have sr : rb + 1 < s7 := by rw [hs7]; exact rl
  have I0 : Hid (LgI ip rb s7 w4 0 [] w4) := ⟨.nil, (fun _ h => by cases h), by decide, r3.later b4, i4, But.refl _ _⟩
  have hw4' := hw4.symm
  have hs7' := hs7.symm
  clear b3 r3 NW C2 HB2 l2 b4 i4 hw4 hs7 rl C3 l3
  go_wp2
  clear hw4' hs7'
  go_loopw [8, 9] (fun vm vi wr => ∃ (i : Nat) (ns : List Nat), vi = .int .i64 (i : Int) ∧ vm = .int .i64 (ns.length : Int) ∧ i ≤ n ∧ Hid (LgI ip rb s7 w4 (i : Int) ns wr)) (fun _ vi _ => n - (intOf vi).toNat)
  case atStart => exact ⟨0, [], rfl, rfl, Nat.zero_le _, I0.out⟩
  case round =>
    obtain ⟨i, ns, rfl, rfl, hi, LI⟩ := hrel
    have CI := hide (C4.out.but l4 LI.out.but (fun e => by rcases e with (e | e) | e <;> omega))
    have li : s < wr.heap.size := Nat.lt_of_lt_of_le l4 LI.out.but.size
    have HBI : Hid (Below w.heap.size w wr) := HB4.out.trans (LI.out.but.below HB4.out.size (fun g hg e => by have := HS.out; rcases e with (e | e) | e <;> omega))
    by_cases hlt : i < n
    · obtain ⟨lg, off, rfl, hg, hcs⟩ := HLC.out (by omega)
      obtain ⟨x, hx⟩ : ∃ x, l[i]? = some x := ⟨_, List.getElem?_eq_getElem (by rw [← HN.out]; exact hlt)⟩
      have cx := (HBI.out.cell (p := ⟨lg, off + i, none⟩) hg).trans (hcs i x hx)
      have iz : (i : Int) < (n : Int) := by omega
      have LM : Hid (LgI ip rb s7 w4 ((i : Int) + 1) ns wr) := ⟨LI.out.nd, LI.out.le, LI.out.len, LI.out.rt.more (by omega), LI.out.inn, LI.out.but⟩
      clear hcs hx
      by_cases h0 : x < 0
      · clear LI CI li HBI hg
        go_wp2
        go_roundw
        case rel => exact ⟨i + 1, ns, by go_num, rfl, by omega, (by unfold Hid; rw [show ((i + 1 : Nat) : Int) = (i : Int) + 1 by omega]; exact LM.out)⟩
        case measure => simp [intOf]; omega
      by_cases h1 : 32 < x
      · clear LI CI li HBI hg
        go_wp2
        go_roundw
        case rel => exact ⟨i + 1, ns, by go_num, rfl, by omega, (by unfold Hid; rw [show ((i + 1 : Nat) : Int) = (i : Int) + 1 by omega]; exact LM.out)⟩
        case measure => simp [intOf]; omega
      obtain ⟨k, hk⟩ : ∃ k : Nat, x = (k : Int) := ⟨x.toNat, by omega⟩
      subst hk
      have k32 : k ≤ 32 := by omega
      -- the net
      obtain ⟨uv, wv, huv, hwv, cuv, fuv, cv, bv0, lv⟩ := newV wr 31 zI.vals V (by rw [LV.out]; rfl)
      obtain ⟨sn, hsn⟩ : ∃ sn, sn = wr.heap.size := ⟨_, rfl⟩
      rw [← hsn] at hwv cuv fuv cv lv
      have bv : But (fun _ => False) wr wv := But.of_below bv0
      have CUV := hide cuv
      have FUV := hide fuv
      have OC0 : Hid (Oct wv sn (no ip k k)) := Oct.of (x := ip) (by rw [← HV.out]; exact cv) (fun y => by rw [hwv, World.frozen?_setCells]; exact fuv y) (fun j => no_same ip k j)
      have sn4 : w4.heap.size ≤ sn := by rw [hsn]; exact LI.out.but.size
      have kz : (k : Int) ≤ 32 := by omega
      have hwv' := hwv.symm
      have huv' := huv.symm
      simp only [zI, I4.vals] at huv'
      have hsn' := hsn.symm
      clear huv hwv hsn cuv fuv cv bv0 h0 h1 HBI hg
      go_upto_region 13 with (first | refine wpList_loadA rfl 31 4 aggI sizI _ rfl s 0 rfl V LV.out CI.out ?_ | (refine wpList_storeA rfl 31 4 sizI _ _ rfl sn 0 rfl V zI.vals rfl LV.out rfl CUV.out FUV.out OV.out ?_; intro _; rw [hwv']))
      clear hwv' huv' hsn' CUV FUV cx CI li
      go_wp2
      go_loopw [12] (fun vk wx => ∃ K : Nat, vk = .int .i64 (K : Int) ∧ k ≤ K ∧ K ≤ 32 ∧ Hid (Oct wx sn (no ip k K)) ∧ Hid (But (Only sn) wv wx)) (fun vk _ => 32 - (intOf vk).toNat)
      case atStart => exact ⟨k, rfl, Nat.le_refl _, by omega, OC0.out, But.refl _ _⟩
      case round =>
        obtain ⟨K, rfl, hK1, hK2, OC, BK⟩ := hrel
        by_cases hK : K < 32
        · have Kz : (K : Int) < 32 := by omega
          obtain ⟨y, hy⟩ : ∃ y, y = no ip k K (K / 8) := ⟨_, rfl⟩
          have cy := OC.out.1 (K / 8) (by omega)
          rw [← hy] at cy
          obtain ⟨wN, hwN⟩ : ∃ wN, wN = wr.setCell ⟨sn, K / 8, none⟩ (.int .u8 (bits .andNot .u8 y (128 / 2 ^ (K % 8)))) := ⟨_, rfl⟩
          have ON : Hid (Oct wN sn (no ip k (K + 1))) := by unfold Hid; rw [hwN, hy]; exact OC.out.put HIP.out hK1 hK
          have BN : Hid (But (Only sn) wv wN) := by unfold Hid; rw [hwN]; exact BK.out.cellb (b := sn) rfl (K / 8) _
          have fy := OC.out.2 (K / 8)
          go_upto_region 16 with fail
          refine wp_region_list ?_
          refine listVP (w' := wr) 52 (.int .i64 (K : Int)) rfl rfl rfl (exec_move _ _ rfl rfl) ?_
          try simp only [Act.put, List.setIfInBounds_toArray, List.set_cons_zero, List.set_cons_succ]
          refine listVP (w' := wr) 53 (.int .i64 ((K / 8 : Nat) : Int)) rfl rfl rfl (exec_quo8 _ K rfl (fun _ => rfl) rfl hK) ?_
          try simp only [Act.put, List.setIfInBounds_toArray, List.set_cons_zero, List.set_cons_succ]
          refine listVP (w' := wr) 54 (.int .i64 (K : Int)) rfl rfl rfl (exec_move _ _ rfl rfl) ?_
          try simp only [Act.put, List.setIfInBounds_toArray, List.set_cons_zero, List.set_cons_succ]
          refine listVP (w' := wr) 55 (.int .i64 ((K / 8 : Nat) : Int)) rfl rfl rfl (exec_quo8 _ K rfl (fun _ => rfl) rfl hK) ?_
          try simp only [Act.put, List.setIfInBounds_toArray, List.set_cons_zero, List.set_cons_succ]
          refine listVP (w' := wr) 56 (.pointer (some ⟨sn, K / 8, none⟩)) rfl rfl rfl (exec_ixA4 _ _ sn (K / 8) rfl rfl rfl (by omega)) ?_
          try simp only [Act.put, List.setIfInBounds_toArray, List.set_cons_zero, List.set_cons_succ]
          refine listVP (w' := wr) 57 (.int .u8 y) rfl rfl rfl (exec_load1 5 oneU _ rfl sn (K / 8) rfl (.int .u8 y) (cy)) ?_
          try simp only [Act.put, List.setIfInBounds_toArray, List.set_cons_zero, List.set_cons_succ]
          refine listVP (w' := wr) 58 (.int .i64 (K : Int)) rfl rfl rfl (exec_move _ _ rfl rfl) ?_
          try simp only [Act.put, List.setIfInBounds_toArray, List.set_cons_zero, List.set_cons_succ]
          refine listVP (w' := wr) 59 (.int .i64 ((K % 8 : Nat) : Int)) rfl rfl rfl (exec_rem8 _ K rfl (fun _ => rfl) rfl) ?_
          try simp only [Act.put, List.setIfInBounds_toArray, List.set_cons_zero, List.set_cons_succ]
          refine listVP (w' := wr) 60 (.int .u64 ((K % 8 : Nat) : Int)) rfl rfl rfl (exec_cvu _ (K % 8) rfl rfl (by omega)) ?_
          try simp only [Act.put, List.setIfInBounds_toArray, List.set_cons_zero, List.set_cons_succ]
          refine listVP (w' := wr) 61 (.int .u8 (128 / 2 ^ (K % 8))) rfl rfl rfl (exec_shr8 _ (K % 8) rfl (fun _ => rfl) rfl (by omega)) ?_
          try simp only [Act.put, List.setIfInBounds_toArray, List.set_cons_zero, List.set_cons_succ]
          refine listVP (w' := wr) 62 (.int .u8 (bits .andNot .u8 y (128 / 2 ^ (K % 8)))) rfl rfl rfl (exec_andN _ _ _ _ rfl rfl rfl) ?_
          try simp only [Act.put, List.setIfInBounds_toArray, List.set_cons_zero, List.set_cons_succ]
          refine listVP (w' := wr) 63 (.pointer (some ⟨sn, K / 8, none⟩)) rfl rfl rfl (exec_ixA4 _ _ sn (K / 8) rfl rfl rfl (by omega)) ?_
          try simp only [Act.put, List.setIfInBounds_toArray, List.set_cons_zero, List.set_cons_succ]
          refine listSP (w' := wN) rfl rfl rfl (by rw [hwN]; exact exec_store1 5 sizU _ _ rfl sn (K / 8) rfl _ _ rfl cy fy rfl) ?_
          clear hwN cy fy hy OC BK
          go_wp2
          go_roundw
          case rel => exact ⟨K + 1, by go_num, by omega, by omega, ON.out, BN.out⟩
          case measure => simp [intOf]; omega
        · have eK : K = 32 := by omega
          subst eK
          obtain ⟨we, rfl⟩ : ∃ we, we = wr := ⟨_, rfl⟩
          have CN : Hid (CellsAt we sn 0 (beg ip k).vals) := OC.out.ip (fun j hj => no_beg ip k j hj)
          clear OC hK hK1 hK2
          have LE := LM.out.keep bv (fun g e => e.elim) r4 s4 |>.keep (K := Only sn) BK.out (fun g e => by have e : g = sn := e; omega) r4 s4
          have HLE := hide LE
          have AD := Add_any (wyN ip k) (wyN_ok HIP.out k k32) (LI.out.keep bv (fun g e => e.elim) r4 s4 |>.keep (K := Only sn) BK.out (fun g e => by have e : g = sn := e; omega) r4 s4).rt (by omega)
          have EW : Hid ((wyN ip k).val = .agg (Wy.cells ⟨beg ip k, (k : Int), ⟨10, 0, 0, (k : Int)⟩, true⟩).toArray) := rfl
          rw [EW.out] at AD
          have HAD := hide AD
          have ci := LE.inn.1 k (by omega)
          have fi := LE.inn.2 k
          clear AD LE LI LM BK
          go_upto_region 17 with fail
          refine wp_region_list ?_
          refine listVP (w' := we) 64 (.pointer (some ⟨rb + 1, 0, none⟩)) rfl rfl rfl (exec_move _ _ rfl rfl) ?_
          try simp only [Act.put, List.setIfInBounds_toArray, List.set_cons_zero, List.set_cons_succ]
          refine listVP (w' := we) 65 (.agg ((beg ip k).vals).toArray) rfl rfl rfl (exec_loadA 31 4 aggI sizI _ rfl sn 0 rfl ((beg ip k).vals) rfl (CN.out)) ?_
          try simp only [Act.put, List.setIfInBounds_toArray, List.set_cons_zero, List.set_cons_succ]
          refine listVP (w' := we) 66 (.int .i64 (k : Int)) rfl rfl rfl (exec_move _ _ rfl rfl) ?_
          try simp only [Act.put, List.setIfInBounds_toArray, List.set_cons_zero, List.set_cons_succ]
          refine listVP (w' := we) 67 (.int .i64 (k : Int)) rfl rfl rfl (exec_move _ _ rfl rfl) ?_
          try simp only [Act.put, List.setIfInBounds_toArray, List.set_cons_zero, List.set_cons_succ]
          refine listVP (w' := we) 68 (.int .u8 (k : Int)) rfl rfl rfl (exec_cv8 _ k rfl rfl (by omega)) ?_
          try simp only [Act.put, List.setIfInBounds_toArray, List.set_cons_zero, List.set_cons_succ]
          refine listVP (w' := we) 69 (.agg (I4.vals ⟨10, 0, 0, (k : Int)⟩).toArray) rfl rfl rfl (exec_bldI _ (k : Int) rfl (fun _ => rfl) rfl) ?_
          try simp only [Act.put, List.setIfInBounds_toArray, List.set_cons_zero, List.set_cons_succ]
          refine listVP (w' := we) 70 (.agg (Wy.cells ⟨beg ip k, (k : Int), ⟨10, 0, 0, (k : Int)⟩, true⟩).toArray) rfl rfl rfl (exec_bldW _ _ _ (beg ip k) ⟨10, 0, 0, (k : Int)⟩ (k : Int) rfl (fun _ => rfl) rfl rfl rfl) ?_
          try simp only [Act.put, List.setIfInBounds_toArray, List.set_cons_zero, List.set_cons_succ]
          go_wp2_with fail
          refine HAD.out.mono ?_
          rintro _ w8 ⟨rfl, r8, b8⟩
          have n7 : ¬ Two (rb + 1) rb s7 := fun e => by rcases e with e | e <;> omega
          have l8 : s7 < we.heap.size := World.block_lt_of_cell? we _ ci
          have c8' := (b8.cell (p := ⟨s7, k, none⟩) l8 n7).trans ci
          have f8 := (b8.frozen (p := ⟨s7, k, none⟩) l8 n7).trans fi
          have I8 := hide (HLE.out.inn.but b8 n7)
          have BB8 := hide (HLE.out.but.trans (b8.mono (fun g e => .inl e)))
          have kz33 : (k : Int) < 33 := by omega
          by_cases hin : k ∈ ns
          · obtain ⟨e1, e2⟩ := add_in (ip := ip) k32 hin
            rw [e1]
            rw [e2] at r8
            have L8 : Hid (LgI ip rb s7 w4 ((i : Int) + 1) ns w8) := ⟨HLE.out.nd, HLE.out.le, HLE.out.len, r8, I8.out, BB8.out⟩
            rw [decide_eq_true hin] at c8'
            clear r8 b8 I8 BB8 HAD ci fi e1 e2 HLE hin n7 l8
            go_wp2
            go_roundw
            case rel => exact ⟨i + 1, ns, by go_num, rfl, by omega, (by unfold Hid; rw [show ((i + 1 : Nat) : Int) = (i : Int) + 1 by omega]; exact L8.out)⟩
            case measure => simp [intOf]; omega
          · obtain ⟨e1, e2⟩ := add_out (ip := ip) k32 hin
            rw [decide_eq_false hin] at c8'
            by_cases h8 : ns.length = 8
            · rw [if_pos h8] at e1 e2
              rw [e1]
              rw [e2] at r8
              have L8 : Hid (LgI ip rb s7 w4 ((i : Int) + 1) ns w8) := ⟨HLE.out.nd, HLE.out.le, HLE.out.len, r8, I8.out, BB8.out⟩
              have z8 : ((ns.length : Int) == 8) = true := by rw [h8]; rfl
              clear r8 b8 I8 BB8 HAD ci fi e1 e2 HLE hin n7 l8 h8
              obtain ⟨nl, hnl⟩ : ∃ nl, nl = ns.length := ⟨_, rfl⟩
              rw [← hnl] at z8 ⊢
              have HNL := hide hnl
              clear hnl
              go_wp2
              go_roundw
              case rel => exact ⟨i + 1, ns, by go_num, by rw [HNL.out], by omega, (by unfold Hid; rw [show ((i + 1 : Nat) : Int) = (i : Int) + 1 by omega]; exact L8.out)⟩
              case measure => simp [intOf]; omega
            · rw [if_neg h8] at e1 e2
              rw [e1]
              rw [e2] at r8
              have l9 : ns.length < 8 := by have := HLE.out.len; omega
              have bS : But (Only s7) w8 (w8.setCell ⟨s7, k, none⟩ (.bool true)) := (But.refl (Only s7) w8).cellb (b := s7) rfl k _
              have L8 : Hid (LgI ip rb s7 w4 ((i : Int) + 1) (ns ++ [k]) (w8.setCell ⟨s7, k, none⟩ (.bool true))) := ⟨List.nodup_append.2 ⟨HLE.out.nd, by simp, fun a ha b hb => by rw [List.mem_singleton.1 hb]; rintro rfl; exact hin ha⟩, fun q hq => by rcases List.mem_append.1 hq with h | h; exact HLE.out.le q h; rw [List.mem_singleton.1 h]; exact k32, by simp; omega, r8.but bS (fun e => by have e : rb + 1 = s7 := e; omega) (fun e => by have e : rb = s7 := e; omega), I8.out.put (by omega), BB8.out.trans (bS.mono (fun g e => .inr e))⟩
              have z8 : ((ns.length : Int) == 8) = false := by simp; omega
              obtain ⟨nl, hnl⟩ : ∃ nl, nl = ns.length := ⟨_, rfl⟩
              rw [← hnl] at z8 l9 ⊢
              have HNL := hide hnl
              have nlz : (nl : Int) < 8 := by omega
              clear r8 b8 I8 BB8 HAD ci fi e1 e2 HLE hin n7 l8 h8 bS hnl
              go_wp2
              go_roundw
              case rel => exact ⟨i + 1, ns ++ [k], by go_num, by rw [List.length_append, ← HNL.out]; rfl, by omega, (by unfold Hid; rw [show ((i + 1 : Nat) : Int) = (i : Int) + 1 by omega]; exact L8.out)⟩
              case measure => simp [intOf]; omega
    · have ein : n = i := by omega
      subst ein
      obtain ⟨wE, rfl⟩ : ∃ wE, wE = wr := ⟨_, rfl⟩
      have NLE := hide LI.out.le
      have IE := hide LI.out.inn
      have RE0 := hide LI.out.rt
      have ND0 := hide LI.out.nd
      have rE : rb + 1 < wE.heap.size := LI.out.rt.lt.1
      clear LI hi hlt
      go_wp2
      go_loopw [14] (fun v wr => ∃ (m : Nat) (ms : List Nat), v = .int .i64 ((m : Int) - 1) ∧ m ≤ 33 ∧ Hid (ms.Nodup) ∧ Hid (∀ k, k ∈ ms ↔ k ∈ ns ∧ k < m) ∧ Hid (Rt wr (rb + 1) rb (ms.map (wyN ip)) (n : Int)) ∧ Hid (But (Two (rb + 1) rb) wE wr)) (fun v _ => (intOf v + 1).toNat)
      case atStart => exact ⟨33, ns, rfl, by omega, ND0.out, (fun k => ⟨fun h => ⟨h, by have := NLE.out k h; omega⟩, fun h => h.1⟩), RE0.out, But.refl _ _⟩
      case round =>
        obtain ⟨m, ms, rfl, hm, DND, HMS, RJ, BJ⟩ := hrel
        have CJ := hide (CI.out.but li BJ.out (fun e => by rcases e with e | e <;> omega))
        have lj : s < wr.heap.size := Nat.lt_of_lt_of_le li BJ.out.size
        rcases m with _ | m
        · have em : ((0 : Nat) : Int) - 1 = -1 := by omega
          rw [em]
          have e0 : ms = [] := List.eq_nil_iff_forall_not_mem.2 (fun k hk => by have := ((HMS.out k).1 hk).2; omega)
          subst e0
          have FD := Find_any ip HIP.out RJ.out
          rw [List.map_nil, EV.out, fdE_nil, fdA_nil] at FD
          have HFD := hide FD
          have HBJ : Hid (Below w.heap.size w wr) := HBI.out.trans (BJ.out.below HBI.out.size (fun g hg e => by have := HS.out; rcases e with e | e <;> omega))
          clear FD hm em
          go_wp2_with (refine wpList_loadA rfl 31 4 aggI sizI _ rfl s 0 rfl V LV.out CJ.out ?_)
          refine HFD.out.mono ?_
          rintro _ w7 ⟨rfl, b7⟩
          have b8 : Below w7.heap.size w7 (w7.alloc (.cells #[.int .u8 0, .int .u8 0, .int .u8 0, .int .u8 0] 31)) := (Below.refl _ _).alloc (Nat.le_refl _) _
          have R8 := hide ((RJ.out.later b7).later b8)
          have HB8 : Hid (Below w.heap.size w (w7.alloc (.cells #[.int .u8 0, .int .u8 0, .int .u8 0, .int .u8 0] 31))) := later (later HBJ.out b7) b8
          have AL := hide (All_any R8.out)
          simp only [zI, I4.val]
          clear b7 b8 HFD
          go_wp2_with fail
          refine AL.out.mono ?_
          rintro _ wf ⟨v, rfl, rv, bf⟩
          obtain ⟨xa, xc, rfl⟩ := rv.shape
          have BF : Hid (Below w.heap.size w wf) := later HB8.out bf
          clear rv bf AL
          go_wp2
          go_ret
          exact ⟨rfl, BF.out⟩
        · have em : ((m + 1 : Nat) : Int) - 1 = (m : Int) := by omega
          rw [em]
          have m32 : m ≤ 32 := by omega
          have mz : (0 : Int) ≤ (m : Int) := by omega
          have mz33 : (m : Int) < 33 := by omega
          have mz2 : (m : Int) ≤ 32 := by omega
          have c7 : wr.cell? ⟨s7, m, none⟩ = some (.bool (decide (m ∈ ns))) := (IE.out.but BJ.out (fun e => by rcases e with e | e <;> omega)).1 m (by omega)
          clear em hm
          by_cases hin : m ∈ ns
          · have hmm : m ∈ ms := (HMS.out m).2 ⟨hin, by omega⟩
            rw [decide_eq_true hin] at c7
            have FD := Find_any ip HIP.out RJ.out
            obtain ⟨f1, f2⟩ := find_top (ip := ip) hmm m32 (fun k hk => by have := ((HMS.out k).1 hk).2; omega)
            rw [EV.out, f1, f2] at FD
            have HFD := hide FD
            clear FD f1 f2
            go_wp2_with (refine wpList_loadA rfl 31 4 aggI sizI _ rfl s 0 rfl V LV.out CJ.out ?_)
            clear c7
            refine HFD.out.mono ?_
            rintro _ w5 ⟨rfl, b5⟩
            -- what was found
            obtain ⟨G, hG⟩ : ∃ G, G = I4.vals ⟨10, 0, 0, (m : Int)⟩ := ⟨_, rfl⟩
            have EG : Hid (I4.val ⟨10, 0, 0, (m : Int)⟩ = .agg G.toArray) := by rw [hG]; exact rfl
            have LG : Hid (G.length = 4) := by rw [hG]; exact (rfl : (I4.vals ⟨10, 0, 0, (m : Int)⟩).length = 4)
            have OGo : Hid (∀ u ∈ G, u.oneCell' = true) := by rw [hG]; exact ip_one _
            rw [EG.out]
            obtain ⟨ug, wg0, hug, hwg, cug, fug, cg, bg, lg0⟩ := newV w5 31 zI.vals G (by rw [LG.out]; rfl)
            obtain ⟨sg, hsg⟩ : ∃ sg, sg = w5.heap.size := ⟨_, rfl⟩
            rw [← hsg] at hwg cug fug cg lg0
            have CUG := hide cug
            have FUG := hide fug
            have b5g := later b5 bg
            have CJ2 := hide (CJ.out.later lj b5g)
            have hug' := hug.symm
            simp only [zI, I4.vals] at hug'
            have hwg' := hwg.symm
            have hsg' := hsg.symm
            have SG1 : Hid (wr.heap.size ≤ sg) := by unfold Hid; rw [hsg]; exact b5.size
            have CG0 := hide cg
            have HG := hide hG
            clear hug hwg hsg cug fug cg b5 bg HFD hG
            go_upto_region 28 with (refine wpList_storeA rfl 31 4 sizI _ _ rfl sg 0 rfl G zI.vals rfl LG.out rfl CUG.out FUG.out OGo.out ?_; intro _; rw [hwg'])
            clear hug' hwg' hsg' CUG FUG
            -- the net
            obtain ⟨uv, wg, huv, hwv, cuv, fuv, cv, bv0, lv⟩ := newV wg0 31 zI.vals V (by rw [LV.out]; rfl)
            obtain ⟨sn, hsn⟩ : ∃ sn, sn = wg0.heap.size := ⟨_, rfl⟩
            rw [← hsn] at hwv cuv fuv cv lv
            have CUV := hide cuv
            have FUV := hide fuv
            have OC0 : Hid (Oct wg sn (no ip m m)) := Oct.of (x := ip) (by rw [← HV.out]; exact cv) (fun y => by rw [hwv, World.frozen?_setCells]; exact fuv y) (fun j => no_same ip m j)
            have OG : Hid (∀ j, j < 4 → wg.cell? ⟨sg, j, none⟩ = some (.int .u8 (octet ⟨10, 0, 0, (m : Int)⟩ j))) := fun j hj => by
              have h := CG0.out.later lg0 bv0
              rw [HG.out] at h
              rcases j with _ | _ | _ | _ | j
              · exact h 0 _ rfl
              · exact h 1 _ rfl
              · exact h 2 _ rfl
              · exact h 3 _ rfl
              · omega
            have b4f := later b5g bv0
            have sgn : sg < sn := by rw [hsn]; exact lg0
            have lg1 : sg < wg.heap.size := Nat.lt_of_lt_of_le lg0 bv0.size
            have sE : wE.heap.size ≤ sn := by have h1 := BJ.out.size; have h2 := SG1.out; omega
            have rJ := RJ.out.lt.1
            have sgr : rb + 1 < sg := Nat.lt_of_lt_of_le rJ SG1.out
            have hwv' := hwv.symm
            have huv' := huv.symm
            simp only [zI, I4.vals] at huv'
            have hsn' := hsn.symm
            clear huv hwv hsn cuv fuv cv bv0 b5g
            go_upto_region 29 with (first | refine wpList_loadA rfl 31 4 aggI sizI _ rfl s 0 rfl V LV.out CJ2.out ?_ | (refine wpList_storeA rfl 31 4 sizI _ _ rfl sn 0 rfl V zI.vals rfl LV.out rfl CUV.out FUV.out OV.out ?_; intro _; rw [hwv']))
            clear hwv' huv' hsn' CUV FUV CJ CJ2 lj lv CG0
            go_wp2
            go_loopw [18] (fun vk wx => ∃ K : Nat, vk = .int .i64 (K : Int) ∧ m ≤ K ∧ K ≤ 32 ∧ Hid (Oct wx sn (no ip m K)) ∧ Hid (But (Only sn) wg wx)) (fun vk _ => 32 - (intOf vk).toNat)
            case atStart => exact ⟨m, rfl, Nat.le_refl _, by omega, OC0.out, But.refl _ _⟩
            case round =>
              obtain ⟨K, rfl, hK1, hK2, OC, BK⟩ := hrel
              by_cases hK : K < 32
              · have Kz : (K : Int) < 32 := by omega
                obtain ⟨y, hy⟩ : ∃ y, y = no ip m K (K / 8) := ⟨_, rfl⟩
                have cy := OC.out.1 (K / 8) (by omega)
                rw [← hy] at cy
                obtain ⟨wN, hwN⟩ : ∃ wN, wN = wr.setCell ⟨sn, K / 8, none⟩ (.int .u8 (bits .andNot .u8 y (128 / 2 ^ (K % 8)))) := ⟨_, rfl⟩
                have ON : Hid (Oct wN sn (no ip m (K + 1))) := by unfold Hid; rw [hwN, hy]; exact OC.out.put HIP.out hK1 hK
                have BN : Hid (But (Only sn) wg wN) := by unfold Hid; rw [hwN]; exact BK.out.cellb (b := sn) rfl (K / 8) _
                have fy := OC.out.2 (K / 8)
                go_upto_region 32 with fail
                refine wp_region_list ?_
                refine listVP (w' := wr) 115 (.int .i64 (K : Int)) rfl rfl rfl (exec_move _ _ rfl rfl) ?_
                try simp only [Act.put, List.setIfInBounds_toArray, List.set_cons_zero, List.set_cons_succ]
                refine listVP (w' := wr) 116 (.int .i64 ((K / 8 : Nat) : Int)) rfl rfl rfl (exec_quo8 _ K rfl (fun _ => rfl) rfl hK) ?_
                try simp only [Act.put, List.setIfInBounds_toArray, List.set_cons_zero, List.set_cons_succ]
                refine listVP (w' := wr) 117 (.int .i64 (K : Int)) rfl rfl rfl (exec_move _ _ rfl rfl) ?_
                try simp only [Act.put, List.setIfInBounds_toArray, List.set_cons_zero, List.set_cons_succ]
                refine listVP (w' := wr) 118 (.int .i64 ((K / 8 : Nat) : Int)) rfl rfl rfl (exec_quo8 _ K rfl (fun _ => rfl) rfl hK) ?_
                try simp only [Act.put, List.setIfInBounds_toArray, List.set_cons_zero, List.set_cons_succ]
                refine listVP (w' := wr) 119 (.pointer (some ⟨sn, K / 8, none⟩)) rfl rfl rfl (exec_ixA4 _ _ sn (K / 8) rfl rfl rfl (by omega)) ?_
                try simp only [Act.put, List.setIfInBounds_toArray, List.set_cons_zero, List.set_cons_succ]
                refine listVP (w' := wr) 120 (.int .u8 y) rfl rfl rfl (exec_load1 5 oneU _ rfl sn (K / 8) rfl (.int .u8 y) (cy)) ?_
                try simp only [Act.put, List.setIfInBounds_toArray, List.set_cons_zero, List.set_cons_succ]
                refine listVP (w' := wr) 121 (.int .i64 (K : Int)) rfl rfl rfl (exec_move _ _ rfl rfl) ?_
                try simp only [Act.put, List.setIfInBounds_toArray, List.set_cons_zero, List.set_cons_succ]
                refine listVP (w' := wr) 122 (.int .i64 ((K % 8 : Nat) : Int)) rfl rfl rfl (exec_rem8 _ K rfl (fun _ => rfl) rfl) ?_
                try simp only [Act.put, List.setIfInBounds_toArray, List.set_cons_zero, List.set_cons_succ]
                refine listVP (w' := wr) 123 (.int .u64 ((K % 8 : Nat) : Int)) rfl rfl rfl (exec_cvu _ (K % 8) rfl rfl (by omega)) ?_
                try simp only [Act.put, List.setIfInBounds_toArray, List.set_cons_zero, List.set_cons_succ]
                refine listVP (w' := wr) 124 (.int .u8 (128 / 2 ^ (K % 8))) rfl rfl rfl (exec_shr8 _ (K % 8) rfl (fun _ => rfl) rfl (by omega)) ?_
                try simp only [Act.put, List.setIfInBounds_toArray, List.set_cons_zero, List.set_cons_succ]
                refine listVP (w' := wr) 125 (.int .u8 (bits .andNot .u8 y (128 / 2 ^ (K % 8)))) rfl rfl rfl (exec_andN _ _ _ _ rfl rfl rfl) ?_
                try simp only [Act.put, List.setIfInBounds_toArray, List.set_cons_zero, List.set_cons_succ]
                refine listVP (w' := wr) 126 (.pointer (some ⟨sn, K / 8, none⟩)) rfl rfl rfl (exec_ixA4 _ _ sn (K / 8) rfl rfl rfl (by omega)) ?_
                try simp only [Act.put, List.setIfInBounds_toArray, List.set_cons_zero, List.set_cons_succ]
                refine listSP (w' := wN) rfl rfl rfl (by rw [hwN]; exact exec_store1 5 sizU _ _ rfl sn (K / 8) rfl _ _ rfl cy fy rfl) ?_
                clear hwN cy fy hy OC BK
                go_wp2
                go_roundw
                case rel => exact ⟨K + 1, by go_num, by omega, by omega, ON.out, BN.out⟩
                case measure => simp [intOf]; omega
              · have eK : K = 32 := by omega
                subst eK
                obtain ⟨we, rfl⟩ : ∃ we, we = wr := ⟨_, rfl⟩
                have CN : Hid (CellsAt we sn 0 (beg ip m).vals) := OC.out.ip (fun j hj => no_beg ip m j hj)
                clear OC hK hK1 hK2
                have RE := hide ((RJ.out.later b4f).but (K := Only sn) BK.out (fun e => by have e : rb + 1 = sn := e; omega) (fun e => by have e : rb = sn := e; omega))
                have DR := Drop_any (beg ip m) (m : Int) (beg_ok HIP.out m) RE.out
                obtain ⟨d1, ms', d2, d3, d4⟩ := drop_top (ip := ip) hmm DND.out
                rw [d1, d2] at DR
                have ENV : Hid ((beg ip m).val = .agg (beg ip m).vals.toArray) := rfl
                rw [ENV.out] at DR
                have HDR := hide DR
                have GE : ∀ j, j < 4 → we.cell? ⟨sg, j, none⟩ = some (.int .u8 (octet ⟨10, 0, 0, (m : Int)⟩ j)) := fun j hj => (BK.out.cell (p := ⟨sg, j, none⟩) (show sg < wg.heap.size from lg1) (fun e => by have e : sg = sn := e; omega)).trans (OG.out j hj)
                have GEH := hide GE
                have BE : Hid (But (Two (rb + 1) rb) wE we) := (BJ.out.trans (But.of_below b4f)).trans' BK.out (fun g hg e => by have e : g = sn := e; omega)
                have sgl : Hid (sg < we.heap.size) := by have := BK.out.size; unfold Hid; omega
                clear DR RE BK RJ BJ GE
                go_wp2_with (refine wpList_loadA rfl 31 4 aggI sizI _ rfl sn 0 rfl (beg ip m).vals rfl CN.out ?_)
                refine HDR.out.mono ?_
                rintro _ w8 ⟨rfl, r8, b8⟩
                have ng : ¬ Two (rb + 1) rb sg := fun e => by rcases e with e | e <;> omega
                have g0 : w8.cell? ⟨sg, 0, none⟩ = some (.int .u8 10) := (b8.cell (p := ⟨sg, 0, none⟩) sgl.out ng).trans (GEH.out 0 (by omega))
                have g1 : w8.cell? ⟨sg, 1, none⟩ = some (.int .u8 0) := (b8.cell (p := ⟨sg, 1, none⟩) sgl.out ng).trans (GEH.out 1 (by omega))
                have g2 : w8.cell? ⟨sg, 2, none⟩ = some (.int .u8 0) := (b8.cell (p := ⟨sg, 2, none⟩) sgl.out ng).trans (GEH.out 2 (by omega))
                have g3 : w8.cell? ⟨sg, 3, none⟩ = some (.int .u8 (m : Int)) := (b8.cell (p := ⟨sg, 3, none⟩) sgl.out ng).trans (GEH.out 3 (by omega))
                have B8' := hide (BE.out.trans b8)
                have R8 := hide r8
                have MS : Hid (∀ k, k ∈ ms' ↔ k ∈ ns ∧ k < m) := fun k => by
                  rw [d4 k, HMS.out k]
                  constructor
                  · rintro ⟨⟨h1, h2⟩, h3⟩; exact ⟨h1, by omega⟩
                  · rintro ⟨h1, h2⟩; exact ⟨⟨h1, by omega⟩, by omega⟩
                have D3 := hide d3
                have EI := eq_ip
                have wz : IntKind.u8.wrap (m : Int) = (m : Int) := by rw [IntKind.wrap_u8]; omega
                have wz2 : (m : Int) % 256 = (m : Int) := by omega
                have es : eqI ⟨10, 0, 0, (m : Int)⟩ ⟨10, 0, 0, (m : Int)⟩ = true := eqI_self _
                clear r8 b8 ng BE sgl GEH HDR d1 d2 d3 d4 CN
                go_wp2
                go_roundw
                case rel => exact ⟨m, ms', by go_num, by omega, D3.out, MS.out, R8.out, B8'.out⟩
                case measure => simp [intOf]
          · rw [decide_eq_false hin] at c7
            have MS : Hid (∀ k, k ∈ ms ↔ k ∈ ns ∧ k < m) := fun k => by
              rw [HMS.out k]
              constructor
              · rintro ⟨h1, h2⟩
                refine ⟨h1, ?_⟩
                by_cases e : k = m
                · subst e; exact absurd h1 hin
                · omega
              · rintro ⟨h1, h2⟩; exact ⟨h1, by omega⟩
            clear HMS
            go_wp2
            go_roundw
            case rel => exact ⟨m, ms, by go_num, by omega, DND.out, MS.out, RJ.out, BJ.out⟩
            case measure => simp [intOf]
end Go.Proofs.Ytlfacppkgamkgaa
