
/-
  Package route: Find.
-/
import Derived.Test.YtlfacppkgamkgaaM10
namespace Go.Proofs.Ytlfacppkgamkgaa
open Go.RowKit Go.Shelf

/-- the way of a net and its bits -/
def gt (n : I4) (k : Int) (ws : List Wy) : Option Wy := ws.find? (fun x => decide (x.net = n ∧ x.bits = k))
theorem gt_fnd (n : I4) (k : Int) : ∀ L : List Rw, gt n k (L.map (·.w)) = (fnd n k L).map (·.2.w)
  | [] => rfl
  | r :: L => by
    have ih := gt_fnd n k L
    unfold gt at ih ⊢
    unfold fnd isK
    simp only [List.map_cons, List.find?_cons]
    by_cases h : r.w.net = n ∧ r.w.bits = k
    · rw [decide_eq_true h, if_pos rfl]; rfl
    · rw [decide_eq_false h, if_neg (by decide)]
      simp only [ih]
      cases fnd n k L <;> rfl
/-- the longest way below m bits -/
def fdN (ws : List Wy) (ip : I4) : Nat → Option Wy
  | 0 => none
  | m + 1 => match gt (beg ip m) (m : Int) ws with
    | some x => some x
    | none => fdN ws ip m
def fdA (ws : List Wy) (ip : I4) : I4 := match fdN ws ip 33 with
  | some x => if x.via = true then x.gate else ip
  | none => zI
def fdE (ws : List Wy) (ip : I4) : Int := if fdN ws ip 33 = none then 100 else 0
theorem beg_ok {x : I4} (h : x.Ok) (k : Nat) : (beg x k).Ok := ⟨mk_bd _ h.1.1 h.1.2, mk_bd _ h.2.1.1 h.2.1.2, mk_bd _ h.2.2.1.1 h.2.2.1.2, mk_bd _ h.2.2.2.1 h.2.2.2.2⟩
theorem ip_one (x : I4) : ∀ u ∈ x.vals, u.oneCell' = true := by
  intro u hu
  simp only [I4.vals, List.mem_cons, List.not_mem_nil, or_false] at hu
  rcases hu with rfl | rfl | rfl | rfl <;> rfl
theorem results_2 {fn : Func} {p q : Tmp} {T : TypeId} (h : fn.results = #[.cell p T, .tmp q]) (tmps : Array Value) (w : World) (s : Nat) (v u : Value) (hp : tmps.getD p undef = .pointer (some ⟨s, 0, none⟩)) (hq : tmps.getD q undef = u) (hL : (loadVar T ⟨s, 0, none⟩).run Try.prog w = .ok v w) : (results fn tmps).run Try.prog w = .ok (.tuple #[v, u]) w := by
  have hp' : (asAddr (tmps.getD p undef)).run Try.prog w = .ok ⟨s, 0, none⟩ w := by rw [hp]; rfl
  have hp2 : (asAddr (tmps[p]?.getD undef)).run Try.prog w = .ok ⟨s, 0, none⟩ w := by simpa using hp'
  have hq' : tmps[q]?.getD undef = u := by simpa using hq
  simp only [results, h]
  simp [Sem.run_bind, Result.andThen, hp2, hL, hq']
set_option maxRecDepth 100000 in
set_option maxHeartbeats 8000000 in
theorem Find_any (ip : I4) (hip : ip.Ok) {w : World} {rt b : Nat} {ws : List Wy} {N : Int} (hr : Rt w rt b ws N) :
    Calls Try.prog 12 #[.pointer (some ⟨rt, 0, none⟩), ip.val] w fun e w' => e = .returned (.tuple #[(fdA ws ip).val, .int .i64 (fdE ws ip)]) ∧ Below w.heap.size w w' := by
  obtain ⟨L, ck, bh, h1, h2, h3, h4, h5⟩ := hr
  obtain ⟨s, hs⟩ : ∃ s, s = w.heap.size := ⟨_, rfl⟩
  obtain ⟨V, hV⟩ : ∃ V, V = ip.vals := ⟨_, rfl⟩
  obtain ⟨Z, hZ⟩ : ∃ Z, Z = zI.vals := ⟨_, rfl⟩
  obtain ⟨w1, hw1⟩ : ∃ w1, w1 = (w.alloc (.cells V.toArray 31)).alloc (.cells Z.toArray 31) := ⟨_, rfl⟩
  have b1 : Below w.heap.size w w1 := by rw [hw1]; exact ((Below.refl _ w).alloc (Nat.le_refl _) _).alloc (by simp) _
  have c1 : CellsAt w1 s 0 V := by rw [hw1, hs]; exact (CellsAt.new w V 31).but (by simp) ((But.refl (fun _ => False) _).alloc (.cells Z.toArray 31)) id
  have c2 : CellsAt w1 (s + 1) 0 Z := by
    have h := CellsAt.new (w.alloc (.cells V.toArray 31)) Z 31
    rw [World.size_alloc, ← hs] at h
    rw [hw1]; exact h
  have f2 : ∀ y, w1.frozen? ⟨s + 1, y, none⟩ = false := fun y => by
    have h := frozen_new (w.alloc (.cells V.toArray 31)) Z.toArray 31 y
    rw [World.size_alloc, ← hs] at h
    rw [hw1]; exact h
  have LV : Hid (V.length = 4) := by rw [hV]; exact (rfl : ip.vals.length = 4)
  have LZ : Hid (Z.length = 4) := by rw [hZ]; exact (rfl : zI.vals.length = 4)
  have EV : Hid (ip.val = .agg V.toArray) := by rw [hV]; exact rfl
  have z1 : s + 1 < w1.heap.size := c2.lt (by rw [LZ.out]; decide)
  rw [EV.out]
  have HI := hide hip
  have HB1 := hide b1
  have C1 := hide c1
  have C2 := hide c2
  have F2 := hide f2
  have R1 := hide (h1.later b1)
  have H2 := hide h2
  have H3 := hide h3
  have HV := hide hV
  have HZ := hide hZ
  have hw1' := hw1.symm
  simp only [hZ, zI, I4.vals] at hw1'
  have hs' := hs.symm
  have HS := hide hs
  clear b1 c1 c2 f2 h1 h2 h3 hw1 hs hV hZ hip
  go_enter Try.func12, Try.ntmps12
  go_wp2
  clear hw1' hs'
  go_loopw [6] (fun v wr => ∃ m : Nat, v = .int .i64 ((m : Int) - 1) ∧ m ≤ 33 ∧ Hid (fdN ws ip 33 = fdN ws ip m) ∧ Hid (Below w1.heap.size w1 wr)) (fun v _ => (intOf v + 1).toNat)
  case atStart => exact ⟨33, rfl, by omega, rfl, Below.refl _ _⟩
  case round =>
    obtain ⟨m, rfl, hm, HM, BR⟩ := hrel
    rcases m with _ | m
    · have em : ((0 : Nat) : Int) - 1 = -1 := by omega
      rw [em]
      have eM : Hid (fdN ws ip 33 = none) := HM.out
      have eE : Hid (fdE ws ip = 100) := by unfold Hid fdE; rw [if_pos eM.out]
      have eA : Hid (fdA ws ip = zI) := by unfold Hid fdA; rw [eM.out]
      have CZ := hide (C2.out.later (by omega) BR.out)
      have FZ : Hid (∀ y, wr.frozen? ⟨s + 1, y, none⟩ = false) := fun y => (BR.out.frozen (p := ⟨s + 1, y, none⟩) z1).trans (F2.out y)
      have HBE : Hid (Below w.heap.size w wr) := later HB1.out BR.out
      have OA : Hid (∀ u ∈ Z, u.oneCell' = true) := by rw [HZ.out]; exact ip_one zI
      have ZE : Hid (Z.toArray = #[.int .u8 0, .int .u8 0, .int .u8 0, .int .u8 0]) := by rw [HZ.out]; exact rfl
      clear HM BR hm
      go_wp2_with (refine wpList_storeA rfl 31 4 sizI _ _ rfl (s + 1) 0 rfl Z Z (by rw [ZE.out]; rfl) LZ.out LZ.out CZ.out FZ.out OA.out (fun hc => ?_))
      refine bodyPost_ret (v := .tuple #[zI.val, .int .i64 100]) ?_ rfl ⟨by rw [eA.out, eE.out], HBE.out.trans ((But.cells (s + 1) Z 0 wr).below HBE.out.size (fun g hg e => by have e : g = s + 1 := e; have := HS.out; omega))⟩
      have e : zI.val = .agg Z.toArray := by rw [HZ.out]; rfl
      rw [e]
      exact results_2 rfl _ _ (s + 1) _ _ rfl rfl (run_loadVarA 31 4 aggI sizI (s + 1) 0 _ LZ.out hc)
    · have em : ((m + 1 : Nat) : Int) - 1 = (m : Int) := by omega
      rw [em]
      have m32 : m ≤ 32 := by omega
      have z0 : (0 : Int) ≤ (m : Int) := by omega
      go_upto_region 4 with fail
      have RR := hide (R1.out.later BR.out)
      have CR := hide (C1.out.later (by omega) BR.out)
      obtain ⟨n, hn⟩ : ∃ n, n = beg ip m := ⟨_, rfl⟩
      have HNo : Hid n.Ok := by rw [hn]; exact beg_ok HI.out m
      obtain ⟨G, hG⟩ : ∃ G, G = gotR n (m : Int) L := ⟨_, rfl⟩
      obtain ⟨B0, hB0⟩ : ∃ B0, B0 = (fnd n (m : Int) L).isSome := ⟨_, rfl⟩
      have LK4 : ∀ W, MapAt W b L ck → (Instr.lookup 48 (.map (some b)) (.agg (keyc n (m : Int)).toArray) true).run Try.prog W = .ok (.tuple #[.agg G.cells.toArray, .bool B0]) W := fun W h => by
        rw [hG, hB0]; exact look_run h n (m : Int)
      have K1 : ∀ W, Calls Try.prog 20 #[.agg V.toArray, .int .i64 (m : Int)] W fun e w' => e = .returned (.agg n.vals.toArray) ∧ Below W.heap.size W w' := fun W => by
        rw [HV.out, hn]; exact beginning_any ip m HI.out m32 W
      have K2 : ∀ W, Calls Try.prog 17 #[.agg n.vals.toArray, .int .i64 (m : Int)] W fun e w' => e = .returned (.agg (keyc n (m : Int)).toArray) ∧ Below W.heap.size W w' := fun W => keyOf_any n (m : Int) HNo.out W
      have SL : ∀ W W', (RtAt W rt b L ck bh ∧ CellsAt W s 0 V) → Below W.heap.size W W' → (RtAt W' rt b L ck bh ∧ CellsAt W' s 0 V) := fun W W' h hb => ⟨h.1.later hb, h.2.later (h.2.lt (by rw [LV.out]; decide)) hb⟩
      have Sd : RtAt wr.drew rt b L ck bh ∧ CellsAt wr.drew s 0 V := ⟨RR.out.later (later_drew _), CR.out⟩
      have FA : ∀ W, Fresh W.heap.size W zRw.cells W.heap.size (W.alloc (.cells zRw.cells.toArray 57)) := fun W => ⟨(Below.refl _ _).alloc (Nat.le_refl _) _, Nat.le_refl _, by simp, CellsAt.new W _ _, fun y => frozen_new W _ _ _⟩
      refine wp_region_held (S := fun W => RtAt W rt b L ck bh ∧ CellsAt W s 0 V) (by kernel_rfl) ?_
      refine takeD (i := 0) (v := .pointer (some ⟨rt, 0, none⟩)) 14 rfl rfl (by kernel_rfl) (by kernel_rfl) (by kernel_rfl) (fun _ _ _ h => h) (.inl ⟨by rfl, fun W hW => exec_move _ _ rfl rfl⟩) (Sd) ?_
      try simp only [Act.put, List.setIfInBounds_toArray, List.set_cons_zero, List.set_cons_succ]
      refine takeD (i := 1) (v := .pointer (some ⟨rt, 0, none⟩)) 15 rfl rfl (by kernel_rfl) (by kernel_rfl) (by kernel_rfl) (fun _ _ _ h => h) (.inl ⟨by rfl, fun W hW => exec_nil _ _ rfl rfl⟩) (Sd) ?_
      try simp only [Act.put, List.setIfInBounds_toArray, List.set_cons_zero, List.set_cons_succ]
      refine takeD (i := 2) (v := .pointer (some ⟨rt, 0, none⟩)) 16 rfl rfl (by kernel_rfl) (by kernel_rfl) (by kernel_rfl) (fun _ _ _ h => h) (.inl ⟨by rfl, fun W hW => exec_fieldO 51 _ 0 rt 0 0 rfl rfl (fun w => by kernel_rfl)⟩) (Sd) ?_
      try simp only [Act.put, List.setIfInBounds_toArray, List.set_cons_zero, List.set_cons_succ]
      refine takeD (i := 3) (v := .map (some b)) 17 rfl rfl (by kernel_rfl) (by kernel_rfl) (by kernel_rfl) (fun _ _ _ h => h) (.inl ⟨by rfl, fun W hW => exec_load1 48 oneMp _ rfl rt 0 rfl (.map (some b)) (hW.1.c0)⟩) (Sd) ?_
      try simp only [Act.put, List.setIfInBounds_toArray, List.set_cons_zero, List.set_cons_succ]
      refine takeD (i := 4) (v := .agg V.toArray) 18 rfl rfl (by kernel_rfl) (by kernel_rfl) (by kernel_rfl) (fun _ _ _ h => h) (.inl ⟨by rfl, fun W hW => exec_loadA 31 4 aggI sizI _ rfl s 0 rfl V LV.out hW.2⟩) (Sd) ?_
      try simp only [Act.put, List.setIfInBounds_toArray, List.set_cons_zero, List.set_cons_succ]
      refine takeD (i := 5) (v := .int .i64 (m : Int)) 19 rfl rfl (by kernel_rfl) (by kernel_rfl) (by kernel_rfl) (fun _ _ _ h => h) (.inl ⟨by rfl, fun W hW => exec_move _ _ rfl rfl⟩) (Sd) ?_
      try simp only [Act.put, List.setIfInBounds_toArray, List.set_cons_zero, List.set_cons_succ]
      refine takeD (i := 7) (v := .int .i64 (m : Int)) 21 rfl rfl (by kernel_rfl) (by kernel_rfl) (by kernel_rfl) (fun _ _ _ h => h) (.inl ⟨by rfl, fun W hW => exec_move _ _ rfl rfl⟩) (Sd) ?_
      try simp only [Act.put, List.setIfInBounds_toArray, List.set_cons_zero, List.set_cons_succ]
      refine join (C := fun s7 W => Fresh wr.heap.size wr.drew zRw.cells s7 W ∧ (RtAt W rt b L ck bh ∧ CellsAt W s 0 V)) ?JP (fun REST => ?main) ?rest
      case main =>
        refine wpAnyH_all (rs := [6, 13]) (by kernel_rfl) (by simp) (fun i hi => ?_)
        simp only [List.mem_cons, List.not_mem_nil, or_false] at hi
        rcases hi with rfl | rfl
        · refine call_step 20 #[.agg V.toArray, .int .i64 (m : Int)] rfl rfl rfl (exec_callF _ _ _ _ rfl (map2 rfl rfl) (enters_of Try.func20 (by kernel_rfl) rfl)) (K1 _) ?_
          intro W1 hb1
          have S1 := SL _ _ Sd hb1
          refine ⟨S1, ?_⟩
          try simp only [Act.put, List.setIfInBounds_toArray, List.set_cons_zero, List.set_cons_succ]
          refine wpAnyH_all (rs := [8, 13]) (by kernel_rfl) (by simp) (fun i hi => ?_)
          simp only [List.mem_cons, List.not_mem_nil, or_false] at hi
          rcases hi with rfl | rfl
          · refine call_step 17 #[.agg n.vals.toArray, .int .i64 (m : Int)] rfl rfl rfl (exec_callF _ _ _ _ rfl (map2 rfl rfl) (enters_of Try.func17 (by kernel_rfl) rfl)) (K2 _) ?_
            intro W2 hb2
            have S2 := SL _ _ S1 hb2
            refine ⟨S2, ?_⟩
            try simp only [Act.put, List.setIfInBounds_toArray, List.set_cons_zero, List.set_cons_succ]
            have B2 : Below wr.heap.size wr.drew W2 := hb1.trans (hb2.mono hb1.size)
            have FR := (FA W2)
            have S3 := SL _ _ S2 FR.bel
            refine takeD (i := 9) (v := .tuple #[.agg G.cells.toArray, .bool B0]) 23 rfl rfl (by kernel_rfl) (by kernel_rfl) (by kernel_rfl) (fun _ _ _ h => h) (.inl ⟨by rfl, fun W hW => exec_look _ _ _ _ _ _ _ rfl rfl rfl (LK4 W hW.1.map)⟩) (S2) ?_
            try simp only [Act.put, List.setIfInBounds_toArray, List.set_cons_zero, List.set_cons_succ]
            refine takeD (i := 10) (v := .tuple #[.agg G.cells.toArray, .bool B0]) 13 rfl rfl (by kernel_rfl) (by kernel_rfl) (by kernel_rfl) (fun _ _ _ h => h) (.inl ⟨by rfl, fun W hW => exec_move _ _ rfl rfl⟩) (S2) ?_
            try simp only [Act.put, List.setIfInBounds_toArray, List.set_cons_zero, List.set_cons_succ]
            refine takeD (i := 11) (v := .agg G.cells.toArray) 24 rfl rfl (by kernel_rfl) (by kernel_rfl) (by kernel_rfl) (fun _ _ _ h => h) (.inl ⟨by rfl, fun W hW => exec_ext _ _ [.agg G.cells.toArray, .bool B0] _ rfl rfl rfl⟩) (S2) ?_
            try simp only [Act.put, List.setIfInBounds_toArray, List.set_cons_zero, List.set_cons_succ]
            refine takeD (i := 12) (v := .bool B0) 25 rfl rfl (by kernel_rfl) (by kernel_rfl) (by kernel_rfl) (fun _ _ _ h => h) (.inl ⟨by rfl, fun W hW => exec_ext _ _ [.agg G.cells.toArray, .bool B0] _ rfl rfl rfl⟩) (S2) ?_
            try simp only [Act.put, List.setIfInBounds_toArray, List.set_cons_zero, List.set_cons_succ]
            refine nextD (w' := W2.alloc (.cells zRw.cells.toArray 57)) 13 7 (.pointer (some ⟨W2.heap.size, 0, none⟩)) (by kernel_rfl) rfl rfl (by rfl) (exec_allocR rfl) (S3) ?_
            try simp only [Act.put, List.setIfInBounds_toArray, List.set_cons_zero, List.set_cons_succ]
            have FX : Fresh wr.heap.size wr.drew zRw.cells W2.heap.size (W2.alloc (.cells zRw.cells.toArray 57)) := ⟨B2.trans (FR.bel.mono B2.size), B2.size, FR.hi, FR.at_, FR.fz⟩
            clear FR B2
            generalize W2.alloc (.cells zRw.cells.toArray 57) = Wx at *
            generalize W2.heap.size = sx at *
            exact REST sx Wx ⟨FX, S3⟩
          · have FR := (FA W1)
            have S3 := SL _ _ S1 FR.bel
            refine val_step rfl rfl rfl (exec_allocR rfl) ⟨S3, ?_⟩
            try simp only [Act.put, List.setIfInBounds_toArray, List.set_cons_zero, List.set_cons_succ]
            refine wpAnyH_all (rs := [8]) (by kernel_rfl) (by simp) (fun i hi => ?_)
            obtain rfl : i = 8 := by simpa using hi
            refine call_step 17 #[.agg n.vals.toArray, .int .i64 (m : Int)] rfl rfl rfl (exec_callF _ _ _ _ rfl (map2 rfl rfl) (enters_of Try.func17 (by kernel_rfl) rfl)) (K2 _) ?_
            intro W2 hb2
            have S2 := SL _ _ S3 hb2
            refine ⟨S2, ?_⟩
            try simp only [Act.put, List.setIfInBounds_toArray, List.set_cons_zero, List.set_cons_succ]
            refine takeD (i := 9) (v := .tuple #[.agg G.cells.toArray, .bool B0]) 23 rfl rfl (by kernel_rfl) (by kernel_rfl) (by kernel_rfl) (fun _ _ _ h => h) (.inl ⟨by rfl, fun W hW => exec_look _ _ _ _ _ _ _ rfl rfl rfl (LK4 W hW.1.map)⟩) (S2) ?_
            try simp only [Act.put, List.setIfInBounds_toArray, List.set_cons_zero, List.set_cons_succ]
            refine takeD (i := 10) (v := .tuple #[.agg G.cells.toArray, .bool B0]) 13 rfl rfl (by kernel_rfl) (by kernel_rfl) (by kernel_rfl) (fun _ _ _ h => h) (.inl ⟨by rfl, fun W hW => exec_move _ _ rfl rfl⟩) (S2) ?_
            try simp only [Act.put, List.setIfInBounds_toArray, List.set_cons_zero, List.set_cons_succ]
            refine takeD (i := 11) (v := .agg G.cells.toArray) 24 rfl rfl (by kernel_rfl) (by kernel_rfl) (by kernel_rfl) (fun _ _ _ h => h) (.inl ⟨by rfl, fun W hW => exec_ext _ _ [.agg G.cells.toArray, .bool B0] _ rfl rfl rfl⟩) (S2) ?_
            try simp only [Act.put, List.setIfInBounds_toArray, List.set_cons_zero, List.set_cons_succ]
            refine takeD (i := 12) (v := .bool B0) 25 rfl rfl (by kernel_rfl) (by kernel_rfl) (by kernel_rfl) (fun _ _ _ h => h) (.inl ⟨by rfl, fun W hW => exec_ext _ _ [.agg G.cells.toArray, .bool B0] _ rfl rfl rfl⟩) (S2) ?_
            try simp only [Act.put, List.setIfInBounds_toArray, List.set_cons_zero, List.set_cons_succ]
            exact REST _ _ ⟨(⟨hb1.trans (FR.bel.mono hb1.size), hb1.size, FR.hi, FR.at_, FR.fz⟩ : Fresh wr.heap.size wr.drew zRw.cells _ _).later hb2, S2⟩
        · have FR := (FA wr.drew)
          have S3 := SL _ _ Sd FR.bel
          refine val_step rfl rfl rfl (exec_allocR rfl) ⟨S3, ?_⟩
          try simp only [Act.put, List.setIfInBounds_toArray, List.set_cons_zero, List.set_cons_succ]
          refine wpAnyH_all (rs := [6]) (by kernel_rfl) (by simp) (fun i hi => ?_)
          obtain rfl : i = 6 := by simpa using hi
          refine call_step 20 #[.agg V.toArray, .int .i64 (m : Int)] rfl rfl rfl (exec_callF _ _ _ _ rfl (map2 rfl rfl) (enters_of Try.func20 (by kernel_rfl) rfl)) (K1 _) ?_
          intro W1 hb1
          have S1 := SL _ _ S3 hb1
          refine ⟨S1, ?_⟩
          try simp only [Act.put, List.setIfInBounds_toArray, List.set_cons_zero, List.set_cons_succ]
          refine wpAnyH_all (rs := [8]) (by kernel_rfl) (by simp) (fun i hi => ?_)
          obtain rfl : i = 8 := by simpa using hi
          refine call_step 17 #[.agg n.vals.toArray, .int .i64 (m : Int)] rfl rfl rfl (exec_callF _ _ _ _ rfl (map2 rfl rfl) (enters_of Try.func17 (by kernel_rfl) rfl)) (K2 _) ?_
          intro W2 hb2
          have S2 := SL _ _ S1 hb2
          refine ⟨S2, ?_⟩
          try simp only [Act.put, List.setIfInBounds_toArray, List.set_cons_zero, List.set_cons_succ]
          refine takeD (i := 9) (v := .tuple #[.agg G.cells.toArray, .bool B0]) 23 rfl rfl (by kernel_rfl) (by kernel_rfl) (by kernel_rfl) (fun _ _ _ h => h) (.inl ⟨by rfl, fun W hW => exec_look _ _ _ _ _ _ _ rfl rfl rfl (LK4 W hW.1.map)⟩) (S2) ?_
          try simp only [Act.put, List.setIfInBounds_toArray, List.set_cons_zero, List.set_cons_succ]
          refine takeD (i := 10) (v := .tuple #[.agg G.cells.toArray, .bool B0]) 13 rfl rfl (by kernel_rfl) (by kernel_rfl) (by kernel_rfl) (fun _ _ _ h => h) (.inl ⟨by rfl, fun W hW => exec_move _ _ rfl rfl⟩) (S2) ?_
          try simp only [Act.put, List.setIfInBounds_toArray, List.set_cons_zero, List.set_cons_succ]
          refine takeD (i := 11) (v := .agg G.cells.toArray) 24 rfl rfl (by kernel_rfl) (by kernel_rfl) (by kernel_rfl) (fun _ _ _ h => h) (.inl ⟨by rfl, fun W hW => exec_ext _ _ [.agg G.cells.toArray, .bool B0] _ rfl rfl rfl⟩) (S2) ?_
          try simp only [Act.put, List.setIfInBounds_toArray, List.set_cons_zero, List.set_cons_succ]
          refine takeD (i := 12) (v := .bool B0) 25 rfl rfl (by kernel_rfl) (by kernel_rfl) (by kernel_rfl) (fun _ _ _ h => h) (.inl ⟨by rfl, fun W hW => exec_ext _ _ [.agg G.cells.toArray, .bool B0] _ rfl rfl rfl⟩) (S2) ?_
          try simp only [Act.put, List.setIfInBounds_toArray, List.set_cons_zero, List.set_cons_succ]
          exact REST _ _ ⟨((⟨FR.bel, FR.lo, FR.hi, FR.at_, FR.fz⟩ : Fresh wr.heap.size wr.drew zRw.cells _ _).later hb1).later hb2, S2⟩
      case rest =>
        rintro s7 W ⟨FR, SW⟩
        have bo := But.cells s7 G.cells 0 W
        have ns : ¬ Only s7 s := fun e => by have e : s = s7 := e; have := FR.lo; have := BR.out.size; omega
        have SE : RtAt (W.setCells s7 0 G.cells) rt b L ck bh ∧ CellsAt (W.setCells s7 0 G.cells) s 0 V := ⟨SW.1.but bo (fun e => by have e : rt = s7 := e; have := FR.lo; have := RR.out.lt; omega) (fun e => by have e : b = s7 := e; have := FR.lo; have := RR.out.map.lt; omega), SW.2.but (SW.2.lt (by rw [LV.out]; decide)) bo ns⟩
        refine storeD (w' := W.setCells s7 0 G.cells) 14 (by kernel_rfl) rfl rfl rfl (exec_storeA 57 11 sizR _ _ rfl s7 0 rfl _ zRw.cells rfl rfl rfl FR.at_ FR.fz (row_one _)) SE ?_
        refine takeD (i := 15) (v := .bool B0) 8 rfl rfl (by kernel_rfl) (by kernel_rfl) (by kernel_rfl) (fun _ _ _ h => h) (.inl ⟨by rfl, fun W hW => exec_assign _ _ rfl rfl⟩) (SE) ?_
        try simp only [Act.put, List.setIfInBounds_toArray, List.set_cons_zero, List.set_cons_succ]
        refine wpAnyH_done (by kernel_rfl) ?_ _
        have C7 := hide (FR.at_.stored (vs := G.cells) rfl)
        have BE : Hid (Below w1.heap.size w1 (W.setCells s7 0 G.cells)) := by
          have h1 : Below wr.heap.size wr W := (later_drew wr).trans FR.bel
          have h2 : Below wr.heap.size wr (W.setCells s7 0 G.cells) := h1.trans (bo.below h1.size (fun g hg e => by have e : g = s7 := e; have := FR.lo; omega))
          exact later BR.out h2
        obtain ⟨we, hwe⟩ : ∃ we, we = W.setCells s7 0 G.cells := ⟨_, rfl⟩
        rw [← hwe] at C7 BE ⊢
        have FG := hide (gt_fnd n (m : Int) L)
        rw [H3.out] at FG
        have HG := hide hG
        have HB0 := hide hB0
        have HN := hide hn
        clear hwe SE bo ns SW FR LK4 K1 K2 SL Sd FA hG hB0 hn RR CR
        cases hf : fnd n (m : Int) L with
        | none =>
          have eB : B0 = false := by rw [HB0.out, hf]; rfl
          have eM : Hid (fdN ws ip 33 = fdN ws ip m) := by
            unfold Hid
            rw [HM.out]
            show (match gt (beg ip m) (m : Int) ws with | some x => some x | none => fdN ws ip m) = _
            rw [← HN.out, FG.out, hf]
            rfl
          subst eB
          clear hf
          go_wp2
          go_roundw
          case rel => exact ⟨m, by go_num, by omega, eM.out, BE.out⟩
          case measure => simp [intOf]
        | some p =>
          have eB : B0 = true := by rw [HB0.out, hf]; rfl
          have eG : G = p.2 := by rw [HG.out]; unfold gotR; rw [hf]
          have eM : Hid (fdN ws ip 33 = some G.w) := by
            unfold Hid
            rw [HM.out]
            show (match gt (beg ip m) (m : Int) ws with | some x => some x | none => fdN ws ip m) = _
            rw [← HN.out, FG.out, hf, eG]
            rfl
          have eE : Hid (fdE ws ip = 0) := by unfold Hid fdE; rw [if_neg (by rw [eM.out]; simp)]
          subst eB
          clear hf eG
          have L7 := C7.out.lt (show 0 < G.cells.length from Nat.succ_pos _)
          have hb7 : we.cell? ⟨s7, 9, none⟩ = some (.bool G.w.via) := C7.out 9 _ rfl
          have CV := hide (C1.out.later (by omega) BE.out)
          have CZ := hide (C2.out.later (by omega) BE.out)
          have FZ : Hid (∀ y, we.frozen? ⟨s + 1, y, none⟩ = false) := fun y => (BE.out.frozen (p := ⟨s + 1, y, none⟩) z1).trans (F2.out y)
          have HBE : Hid (Below w.heap.size w we) := later HB1.out BE.out
          have FIN : ∀ (A : I4) , fdA ws ip = A → CellsAt (we.setCells (s + 1) 0 A.vals) (s + 1) 0 A.vals → (Ending.returned (.tuple #[A.val, .int .i64 0]) = .returned (.tuple #[(fdA ws ip).val, .int .i64 (fdE ws ip)]) ∧ Below w.heap.size w (we.setCells (s + 1) 0 A.vals)) := fun A hA hc => by
            rw [hA, eE.out]
            exact ⟨rfl, HBE.out.trans ((But.cells (s + 1) A.vals 0 we).below HBE.out.size (fun g hg e => by have e : g = s + 1 := e; have := HS.out; omega))⟩
          have FINH := hide FIN
          clear FIN
          cases hv : G.w.via with
          | true =>
            have eA : Hid (fdA ws ip = G.w.gate) := by unfold Hid fdA; rw [eM.out]; exact if_pos hv
            rw [hv] at hb7
            obtain ⟨A, hA⟩ : ∃ A, A = G.w.gate := ⟨_, rfl⟩
            have CG : Hid (CellsAt we s7 5 A.vals) := by
              unfold Hid
              rw [hA]
              have h := (Wy.parts (x := G.w) (CellsAt.append.1 C7.out).1).2.2.1
              simpa using h
            rw [← hA] at eA
            obtain ⟨AV, hAV⟩ : ∃ AV, AV = A.vals := ⟨_, rfl⟩
            have LA : Hid (AV.length = 4) := by rw [hAV]; exact (rfl : A.vals.length = 4)
            have OA : Hid (∀ u ∈ AV, u.oneCell' = true) := by rw [hAV]; exact ip_one A
            rw [← hAV] at CG
            have HAV := hide hAV
            clear hA hAV hv
            go_wp2_with (first | refine wpList_loadA rfl 31 4 aggI sizI _ rfl s7 5 rfl AV LA.out CG.out ?_ | refine wpList_storeA rfl 31 4 sizI _ _ rfl (s + 1) 0 rfl AV Z rfl LA.out LZ.out CZ.out FZ.out OA.out (fun hc => ?_))
            refine bodyPost_ret (v := .tuple #[A.val, .int .i64 0]) ?_ rfl (by rw [HAV.out]; exact FINH.out A eA.out (by rw [← HAV.out]; exact hc))
            have e : A.val = .agg AV.toArray := by rw [HAV.out]; rfl
            rw [e]
            exact results_2 rfl _ _ (s + 1) _ _ rfl rfl (run_loadVarA 31 4 aggI sizI (s + 1) 0 _ LA.out hc)
          | false =>
            have eA : Hid (fdA ws ip = ip) := by unfold Hid fdA; rw [eM.out]; exact if_neg (by rw [hv]; decide)
            rw [hv] at hb7
            have OA : Hid (∀ u ∈ V, u.oneCell' = true) := by rw [HV.out]; exact ip_one ip
            clear hv
            go_wp2_with (first | refine wpList_loadA rfl 31 4 aggI sizI _ rfl s 0 rfl V LV.out CV.out ?_ | refine wpList_storeA rfl 31 4 sizI _ _ rfl (s + 1) 0 rfl V Z rfl LV.out LZ.out CZ.out FZ.out OA.out (fun hc => ?_))
            refine bodyPost_ret (v := .tuple #[ip.val, .int .i64 0]) ?_ rfl (by rw [HV.out]; exact FINH.out ip eA.out (by rw [← HV.out]; exact hc))
            have e : ip.val = .agg V.toArray := by rw [HV.out]; rfl
            rw [e]
            exact results_2 rfl _ _ (s + 1) _ _ rfl rfl (run_loadVarA 31 4 aggI sizI (s + 1) 0 _ LV.out hc)
end Go.Proofs.Ytlfacppkgamkgaa
