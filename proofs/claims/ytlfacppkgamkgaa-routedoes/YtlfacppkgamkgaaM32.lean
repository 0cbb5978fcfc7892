
/-
  The document's Find: its walk.
-/
import Derived.Test.YtlfacppkgamkgaaM31
namespace Go.Proofs.Ytlfacppkgamkgaa
open Go.RowKit Go.Shelf

set_option maxRecDepth 100000 in
set_option maxHeartbeats 8000000 in
theorem rFind_any (ip : I4) (hip : ip.Ok) {w : World} {q : Nat} {ws : List Wy} (h : RfR w q ws) (hk : Ky ws) :
    Calls Try.prog 13 #[.pointer (some ⟨q, 0, none⟩), ip.val] w fun e w' => e = .returned (.tuple #[(fdA ws ip).val, .int .i64 (fdE ws ip)]) ∧ Below w.heap.size w w' := by
  obtain ⟨s, hs⟩ : ∃ s, s = w.heap.size := ⟨_, rfl⟩
  obtain ⟨V, hV⟩ : ∃ V, V = ip.vals := ⟨_, rfl⟩
  obtain ⟨Z, hZ⟩ : ∃ Z, Z = zI.vals := ⟨_, rfl⟩
  obtain ⟨w1, hw1⟩ : ∃ w1, w1 = (w.alloc (.cells V.toArray 31)).alloc (.cells Z.toArray 31) := ⟨_, rfl⟩
  have b1 : Below w.heap.size w w1 := by rw [hw1]; exact ((Below.refl _ w).alloc (Nat.le_refl _) _).alloc (by simp) _
  have c1 : CellsAt w1 s 0 V := by rw [hw1, hs]; exact (CellsAt.new w V 31).but (by simp) ((But.refl (fun _ => False) _).alloc (.cells Z.toArray 31)) id
  have c2 : CellsAt w1 (s + 1) 0 Z := by
    have h := CellsAt.new (w.alloc (.cells V.toArray 31)) Z 31
    rw [World.size_alloc, ← hs] at h
    rw [hw1]; exact h
  have f2 : ∀ y, w1.frozen? ⟨s + 1, y, none⟩ = false := fun y => by
    have h := frozen_new (w.alloc (.cells V.toArray 31)) Z.toArray 31 y
    rw [World.size_alloc, ← hs] at h
    rw [hw1]; exact h
  have LV : Hid (V.length = 4) := by rw [hV]; exact (rfl : ip.vals.length = 4)
  have LZ : Hid (Z.length = 4) := by rw [hZ]; exact (rfl : zI.vals.length = 4)
  have EV : Hid (ip.val = .agg V.toArray) := by rw [hV]; exact rfl
  have z1 : s + 1 < w1.heap.size := c2.lt (by rw [LZ.out]; decide)
  rw [EV.out]
  have R1 := h.later b1
  obtain ⟨v, cv, rv⟩ := R1.row
  obtain ⟨va, vc, rfl⟩ := rv.shape
  obtain ⟨m, hm⟩ : ∃ m, m = ws.length := ⟨_, rfl⟩
  have m8 : m ≤ 8 := by rw [hm]; exact h.len
  rw [← hm] at cv rv
  obtain ⟨ga, hga⟩ : ∃ ga, 0 < m → va = some ⟨ga, 0, none⟩ ∧ ga < w1.heap.size ∧ ∀ j, j < m → CellsAt w1 ga (j * 10) (wyc ws j) := by
    by_cases e : 0 < m
    · obtain ⟨g, h1, h2, h3, h4, h5⟩ := rv.at e
      exact ⟨g, fun _ => ⟨h1, h2, h5⟩⟩
    · exact ⟨0, fun e' => absurd e' e⟩
  have HOK := hide h.ok
  have HI := hide hip
  have HB1 := hide b1
  have C1 := hide c1
  have C2 := hide c2
  have F2 := hide f2
  have CV := hide cv
  have GA := hide hga
  have HM := hide hm
  have HK := hide hk
  have HV := hide hV
  have HZ := hide hZ
  have lq : q < w1.heap.size := R1.lt
  have hw1' := hw1.symm
  simp only [hZ, zI, I4.vals] at hw1'
  have hs' := hs.symm
  have HS := hide hs
  clear b1 c1 c2 f2 hw1 hs hV hZ hip R1 rv hga hm h cv hk
  go_enter Try.func13, Try.ntmps13
  go_wp2
  clear hw1' hs'
  go_loopw [6, 7] (fun vb vi wr => ∃ (i : Nat) (bi : Int), vi = .int .i64 (i : Int) ∧ vb = .int .i64 bi ∧ i ≤ m ∧ Hid (Bst ws ip i bi) ∧ Hid (Below w1.heap.size w1 wr)) (fun _ vi _ => m - (intOf vi).toNat)
  case atStart => exact ⟨0, -1, rfl, rfl, Nat.zero_le _, .inl ⟨rfl, fun j y hj => by omega⟩, Below.refl _ _⟩
  case round =>
    obtain ⟨i, bi, rfl, rfl, hi, HBI, BI⟩ := hrel
    have cvr : wr.cell? ⟨q, 0, none⟩ = some (.slice va m vc) := (BI.out.cell (p := ⟨q, 0, none⟩) lq).trans CV.out
    by_cases hlt : i < m
    · obtain ⟨ea, hg2, hgc⟩ := GA.out (by omega)
      subst ea
      obtain ⟨x, hx⟩ : ∃ x, ws[i]? = some x := ⟨_, List.getElem?_eq_getElem (by rw [← HM.out]; exact hlt)⟩
      have cx : ∀ (j : Nat) (y : Wy), ws[j]? = some y → j < m → CellsAt w1 ga (j * 10) y.cells := fun j y hy hj => by
        have h := hgc j hj
        unfold wyc at h
        rw [hy] at h
        exact h
      have iz : (i : Int) < (m : Int) := by omega
      have mz : (m : Int) ≤ 8 := by omega
      have PX : ∀ (j : Nat) (y : Wy), ws[j]? = some y → j < m → ∀ W, Below wr.heap.size wr W → CellsAt W ga (j * 10) y.net.vals ∧ W.cell? ⟨ga, j * 10 + 4, none⟩ = some (.int .i64 y.bits) := fun j y hy hj W hW => by
        have h := Wy.parts ((cx j y hy hj).later hg2 (later BI.out hW))
        exact ⟨h.1, h.2.1⟩
      have QX : ∀ W, Below wr.heap.size wr W → W.cell? ⟨q, 0, none⟩ = some (.slice (some ⟨ga, 0, none⟩) m vc) := fun W hW => (hW.cell (p := ⟨q, 0, none⟩) (Nat.lt_of_lt_of_le lq BI.out.size)).trans cvr
      have NX : ∀ W, Below wr.heap.size wr W → CellsAt W s 0 ip.vals := fun W hW => by rw [← HV.out]; exact C1.out.later (by omega) (later BI.out hW)
      have hxm : x ∈ ws := List.mem_of_getElem? hx
      obtain ⟨p1, p2, _⟩ := may_parts (HK.out.may x hxm)
      obtain ⟨kk, hkk⟩ : ∃ kk, kk = x.bits.toNat := ⟨_, rfl⟩
      have ek : x.bits = (kk : Int) := by omega
      have k32 : kk ≤ 32 := by omega
      obtain ⟨c, hc⟩ : ∃ c, c = bgB x.net ip kk := ⟨_, rfl⟩
      have KB : ∀ W, Calls Try.prog 21 #[.agg x.net.vals.toArray, .agg ip.vals.toArray, .int .i64 x.bits] W fun e w' => e = .returned (.bool c) ∧ Below W.heap.size W w' := fun W => by
        rw [ek, hc]; exact begins_any x.net ip kk (HOK.out x hxm).net HI.out k32 W
      have HC : Hid (bgB x.net ip x.bits.toNat = c) := by rw [hc, hkk]; exact rfl
      clear hkk ek k32 hc p1 p2 hxm
      go_upto_region 5 with fail
      refine region_quiet_C (fun W => Below wr.heap.size wr W) (by kernel_rfl) (by kernel_rfl) (later_drew _) ?_
      go_big_quiet_step (fail)
      go_big_quiet_want
      refine quiet_pure (.pointer (some ⟨q, 0, none⟩)) (fun W hW => exec_nil _ _ rfl rfl) ?_
      go_big_quiet_on
      simp only [Act.put, List.setIfInBounds_toArray, List.set_cons_succ, List.set_cons_zero]
      go_big_quiet_want
      refine quiet_pure (.pointer (some ⟨q, 0, none⟩)) (fun W hW => exec_fieldO 29 _ 0 q 0 0 rfl rfl (fun w => by kernel_rfl)) ?_
      go_big_quiet_on
      simp only [Act.put, List.setIfInBounds_toArray, List.set_cons_succ, List.set_cons_zero]
      go_big_quiet_want
      refine quiet_pure (.slice (some ⟨ga, 0, none⟩) m vc) (fun W hW => exec_load1 27 oneWs _ rfl q 0 rfl (.slice (some ⟨ga, 0, none⟩) m vc) (QX W hW)) ?_
      go_big_quiet_on
      simp only [Act.put, List.setIfInBounds_toArray, List.set_cons_succ, List.set_cons_zero]
      go_big_quiet_step (fail)
      go_big_quiet_want
      refine quiet_pure (.pointer (some ⟨ga, i * 10, none⟩)) (fun W hW => exec_ixW _ _ ga m vc i rfl rfl rfl hlt) ?_
      go_big_quiet_on
      simp only [Act.put, List.setIfInBounds_toArray, List.set_cons_succ, List.set_cons_zero]
      go_big_quiet_want
      refine quiet_pure (.pointer (some ⟨ga, i * 10, none⟩)) (fun W hW => exec_fieldO 33 _ 0 ga (i * 10) (i * 10) rfl rfl (fun w => by kernel_rfl)) ?_
      go_big_quiet_on
      simp only [Act.put, List.setIfInBounds_toArray, List.set_cons_succ, List.set_cons_zero]
      go_big_quiet_want
      refine quiet_pure (.agg (x.net.vals).toArray) (fun W hW => exec_loadA 31 4 aggI sizI _ rfl ga (i * 10) rfl (x.net.vals) rfl ((PX i x hx hlt W hW).1)) ?_
      go_big_quiet_on
      simp only [Act.put, List.setIfInBounds_toArray, List.set_cons_succ, List.set_cons_zero]
      go_big_quiet_want
      refine quiet_pure (.agg (ip.vals).toArray) (fun W hW => exec_loadA 31 4 aggI sizI _ rfl s 0 rfl (ip.vals) rfl (NX W hW)) ?_
      go_big_quiet_on
      simp only [Act.put, List.setIfInBounds_toArray, List.set_cons_succ, List.set_cons_zero]
      go_big_quiet_step (fail)
      go_big_quiet_want
      refine quiet_pure (.pointer (some ⟨q, 0, none⟩)) (fun W hW => exec_nil _ _ rfl rfl) ?_
      go_big_quiet_on
      simp only [Act.put, List.setIfInBounds_toArray, List.set_cons_succ, List.set_cons_zero]
      go_big_quiet_want
      refine quiet_pure (.pointer (some ⟨q, 0, none⟩)) (fun W hW => exec_fieldO 29 _ 0 q 0 0 rfl rfl (fun w => by kernel_rfl)) ?_
      go_big_quiet_on
      simp only [Act.put, List.setIfInBounds_toArray, List.set_cons_succ, List.set_cons_zero]
      go_big_quiet_want
      refine quiet_pure (.slice (some ⟨ga, 0, none⟩) m vc) (fun W hW => exec_load1 27 oneWs _ rfl q 0 rfl (.slice (some ⟨ga, 0, none⟩) m vc) (QX W hW)) ?_
      go_big_quiet_on
      simp only [Act.put, List.setIfInBounds_toArray, List.set_cons_succ, List.set_cons_zero]
      go_big_quiet_step (fail)
      go_big_quiet_want
      refine quiet_pure (.pointer (some ⟨ga, i * 10, none⟩)) (fun W hW => exec_ixW _ _ ga m vc i rfl rfl rfl hlt) ?_
      go_big_quiet_on
      simp only [Act.put, List.setIfInBounds_toArray, List.set_cons_succ, List.set_cons_zero]
      go_big_quiet_want
      refine quiet_pure (.pointer (some ⟨ga, i * 10 + 4, none⟩)) (fun W hW => exec_fieldO 33 _ 1 ga (i * 10) (i * 10 + 4) rfl rfl (fun w => by kernel_rfl)) ?_
      go_big_quiet_on
      simp only [Act.put, List.setIfInBounds_toArray, List.set_cons_succ, List.set_cons_zero]
      go_big_quiet_want
      refine quiet_pure (.int .i64 x.bits) (fun W hW => exec_load1 3 one1 _ rfl ga (i * 10 + 4) rfl (.int .i64 x.bits) ((PX i x hx hlt W hW).2)) ?_
      go_big_quiet_on
      simp only [Act.put, List.setIfInBounds_toArray, List.set_cons_succ, List.set_cons_zero]
      go_big_quiet_want
      refine quiet_call 21 #[.agg x.net.vals.toArray, .agg ip.vals.toArray, .int .i64 x.bits] (.bool c) (fun _ => by simp [Act.eval, go_sem]) (fun W hW => (KB W).mono fun e w' h => ⟨h.1, later hW h.2⟩) ?_
      go_big_quiet_on
      simp only [Act.put, List.setIfInBounds_toArray, List.set_cons_succ, List.set_cons_zero]
      go_big_quiet_step (fail)
      refine wpQuiet_nil ?_
      intro wq bq
      rename World => wa
      have ba := bq
      clear bq
      have PY : ∀ (j : Nat) (y : Wy), ws[j]? = some y → j < m → ∀ W, Below wa.heap.size wa W → W.cell? ⟨ga, j * 10 + 4, none⟩ = some (.int .i64 y.bits) := fun j y hy hj W hW => (PX j y hy hj W (later ba hW)).2
      have QY : ∀ W, Below wa.heap.size wa W → W.cell? ⟨q, 0, none⟩ = some (.slice (some ⟨ga, 0, none⟩) m vc) := fun W hW => QX W (later ba hW)
      have BQ : Hid (Below w1.heap.size w1 wa) := later BI.out ba
      clear PX QX NX KB cvr cx hgc ba
      go_upto_region 6 with fail
      go_cut [59] (fun v wc => ∃ t : Bool, v = .bool t ∧ Hid (Bst ws ip (i + 1) (if t = true then (i : Int) else bi)) ∧ Hid (Below w1.heap.size w1 wc))
      case first =>
        cases c with
        | false =>
          have BN : Hid (Bst ws ip (i + 1) bi) := HBI.out.skip hx (fun e => by rw [HC.out] at e; cases e)
          refine region_quiet_C (fun W => Below wa.heap.size wa W) (by kernel_rfl) (by kernel_rfl) (later_drew _) ?_
          go_big_quiet_step (fail)
          go_big_quiet_step (fail)
          go_big_quiet_step (fail)
          go_big_quiet_step (fail)
          go_big_quiet_step (fail)
          go_big_quiet_step (fail)
          go_big_quiet_step (fail)
          go_big_quiet_step (fail)
          go_big_quiet_step (fail)
          go_big_quiet_step (fail)
          go_big_quiet_step (fail)
          go_big_quiet_step (fail)
          go_big_quiet_step (fail)
          go_big_quiet_step (fail)
          go_big_quiet_step (fail)
          go_big_quiet_step (fail)
          go_big_quiet_step (fail)
          go_big_quiet_step (fail)
          go_big_quiet_step (fail)
          go_big_quiet_step (fail)
          go_big_quiet_step (fail)
          go_big_quiet_step (fail)
          go_big_quiet_step (fail)
          go_big_quiet_want
          refine quiet_pure (.bool false) (fun W hW => exec_pick _ _ _ false _ rfl rfl rfl) ?_
          go_big_quiet_on
          simp only [Act.put, List.setIfInBounds_toArray, List.set_cons_succ, List.set_cons_zero]
          refine wpQuiet_nil ?_
          intro wq bq
          have BE : Hid (Below w1.heap.size w1 wq) := later BQ.out bq
          go_wp2
          go_meet
          case rel => exact ⟨false, rfl, BN.out, BE.out⟩
        | true =>
          rcases HBI.out with ⟨ebi, hn⟩ | ⟨b, z, ebi, h1, h2, h3, h4⟩
          · subst ebi
            have BN : Hid (Bst ws ip (i + 1) (i : Int)) := HBI.out.take hx HC.out (fun b z e _ => by omega)
            clear hn
            refine region_quiet_C (fun W => Below wa.heap.size wa W) (by kernel_rfl) (by kernel_rfl) (later_drew _) ?_
            go_big_quiet_step (fail)
            go_big_quiet_step (fail)
            go_big_quiet_step (fail)
            go_big_quiet_want
            refine quiet_pure (.bool true) (fun W hW => exec_lti _ _ _ _ _ _ rfl rfl rfl rfl) ?_
            go_big_quiet_on
            simp only [Act.put, List.setIfInBounds_toArray, List.set_cons_succ, List.set_cons_zero]
            go_big_quiet_step (fail)
            go_big_quiet_step (fail)
            go_big_quiet_step (fail)
            go_big_quiet_step (fail)
            go_big_quiet_step (fail)
            go_big_quiet_step (fail)
            go_big_quiet_step (fail)
            go_big_quiet_step (fail)
            go_big_quiet_step (fail)
            go_big_quiet_step (fail)
            go_big_quiet_step (fail)
            go_big_quiet_step (fail)
            go_big_quiet_step (fail)
            go_big_quiet_step (fail)
            go_big_quiet_step (fail)
            go_big_quiet_step (fail)
            go_big_quiet_step (fail)
            go_big_quiet_step (fail)
            go_big_quiet_want
            refine quiet_pure (.bool true) (fun W hW => exec_pick _ _ _ true _ rfl rfl rfl) ?_
            go_big_quiet_on
            simp only [Act.put, List.setIfInBounds_toArray, List.set_cons_succ, List.set_cons_zero]
            go_big_quiet_want
            refine quiet_pure (.bool true) (fun W hW => exec_pick _ _ _ true _ rfl rfl rfl) ?_
            go_big_quiet_on
            simp only [Act.put, List.setIfInBounds_toArray, List.set_cons_succ, List.set_cons_zero]
            refine wpQuiet_nil ?_
            intro wq bq
            have BE : Hid (Below w1.heap.size w1 wq) := later BQ.out bq
            go_wp2
            go_meet
            case rel => exact ⟨true, rfl, BN.out, BE.out⟩
          · subst ebi
            obtain ⟨t, ht⟩ : ∃ t, t = decide (z.bits < x.bits) := ⟨_, rfl⟩
            have BN : Hid (Bst ws ip (i + 1) (if t = true then (i : Int) else (b : Int))) := by
              unfold Hid
              rw [ht]
              by_cases e : z.bits < x.bits
              · rw [if_pos (decide_eq_true e)]
                exact HBI.out.take hx HC.out (fun b' z' e1 e2 => by
                  have : b = b' := by omega
                  subst this
                  rw [h2] at e2; cases e2; omega)
              · rw [if_neg (by simpa using e)]
                exact HBI.out.skip hx (fun _ => ⟨b, z, rfl, h2, by omega⟩)
            have hbm : b < m := by omega
            have nb : decide ((b : Int) < 0) = false := decide_eq_false (by omega)
            clear h1 h3 h4
            refine region_quiet_C (fun W => Below wa.heap.size wa W) (by kernel_rfl) (by kernel_rfl) (later_drew _) ?_
            go_big_quiet_step (fail)
            go_big_quiet_step (fail)
            go_big_quiet_step (fail)
            go_big_quiet_want
            refine quiet_pure (.bool false) (fun W hW => exec_lti _ _ _ _ _ _ rfl rfl rfl nb) ?_
            go_big_quiet_on
            simp only [Act.put, List.setIfInBounds_toArray, List.set_cons_succ, List.set_cons_zero]
            go_big_quiet_step (fail)
            go_big_quiet_step (fail)
            go_big_quiet_want
            refine quiet_pure (.pointer (some ⟨q, 0, none⟩)) (fun W hW => exec_nil _ _ rfl rfl) ?_
            go_big_quiet_on
            simp only [Act.put, List.setIfInBounds_toArray, List.set_cons_succ, List.set_cons_zero]
            go_big_quiet_want
            refine quiet_pure (.pointer (some ⟨q, 0, none⟩)) (fun W hW => exec_fieldO 29 _ 0 q 0 0 rfl rfl (fun w => by kernel_rfl)) ?_
            go_big_quiet_on
            simp only [Act.put, List.setIfInBounds_toArray, List.set_cons_succ, List.set_cons_zero]
            go_big_quiet_want
            refine quiet_pure (.slice (some ⟨ga, 0, none⟩) m vc) (fun W hW => exec_load1 27 oneWs _ rfl q 0 rfl (.slice (some ⟨ga, 0, none⟩) m vc) (QY W hW)) ?_
            go_big_quiet_on
            simp only [Act.put, List.setIfInBounds_toArray, List.set_cons_succ, List.set_cons_zero]
            go_big_quiet_step (fail)
            go_big_quiet_want
            refine quiet_pure (.pointer (some ⟨ga, i * 10, none⟩)) (fun W hW => exec_ixW _ _ ga m vc i rfl rfl rfl hlt) ?_
            go_big_quiet_on
            simp only [Act.put, List.setIfInBounds_toArray, List.set_cons_succ, List.set_cons_zero]
            go_big_quiet_want
            refine quiet_pure (.pointer (some ⟨ga, i * 10 + 4, none⟩)) (fun W hW => exec_fieldO 33 _ 1 ga (i * 10) (i * 10 + 4) rfl rfl (fun w => by kernel_rfl)) ?_
            go_big_quiet_on
            simp only [Act.put, List.setIfInBounds_toArray, List.set_cons_succ, List.set_cons_zero]
            go_big_quiet_want
            refine quiet_pure (.int .i64 x.bits) (fun W hW => exec_load1 3 one1 _ rfl ga (i * 10 + 4) rfl (.int .i64 x.bits) (PY i x hx hlt W hW)) ?_
            go_big_quiet_on
            simp only [Act.put, List.setIfInBounds_toArray, List.set_cons_succ, List.set_cons_zero]
            go_big_quiet_step (fail)
            go_big_quiet_want
            refine quiet_pure (.pointer (some ⟨q, 0, none⟩)) (fun W hW => exec_nil _ _ rfl rfl) ?_
            go_big_quiet_on
            simp only [Act.put, List.setIfInBounds_toArray, List.set_cons_succ, List.set_cons_zero]
            go_big_quiet_want
            refine quiet_pure (.pointer (some ⟨q, 0, none⟩)) (fun W hW => exec_fieldO 29 _ 0 q 0 0 rfl rfl (fun w => by kernel_rfl)) ?_
            go_big_quiet_on
            simp only [Act.put, List.setIfInBounds_toArray, List.set_cons_succ, List.set_cons_zero]
            go_big_quiet_want
            refine quiet_pure (.slice (some ⟨ga, 0, none⟩) m vc) (fun W hW => exec_load1 27 oneWs _ rfl q 0 rfl (.slice (some ⟨ga, 0, none⟩) m vc) (QY W hW)) ?_
            go_big_quiet_on
            simp only [Act.put, List.setIfInBounds_toArray, List.set_cons_succ, List.set_cons_zero]
            go_big_quiet_step (fail)
            go_big_quiet_want
            refine quiet_pure (.pointer (some ⟨ga, b * 10, none⟩)) (fun W hW => exec_ixW _ _ ga m vc b rfl rfl rfl hbm) ?_
            go_big_quiet_on
            simp only [Act.put, List.setIfInBounds_toArray, List.set_cons_succ, List.set_cons_zero]
            go_big_quiet_want
            refine quiet_pure (.pointer (some ⟨ga, b * 10 + 4, none⟩)) (fun W hW => exec_fieldO 33 _ 1 ga (b * 10) (b * 10 + 4) rfl rfl (fun w => by kernel_rfl)) ?_
            go_big_quiet_on
            simp only [Act.put, List.setIfInBounds_toArray, List.set_cons_succ, List.set_cons_zero]
            go_big_quiet_want
            refine quiet_pure (.int .i64 z.bits) (fun W hW => exec_load1 3 one1 _ rfl ga (b * 10 + 4) rfl (.int .i64 z.bits) (PY b z h2 hbm W hW)) ?_
            go_big_quiet_on
            simp only [Act.put, List.setIfInBounds_toArray, List.set_cons_succ, List.set_cons_zero]
            go_big_quiet_want
            refine quiet_pure (.bool t) (fun W hW => exec_gti _ _ _ _ _ _ rfl rfl rfl ht.symm) ?_
            go_big_quiet_on
            simp only [Act.put, List.setIfInBounds_toArray, List.set_cons_succ, List.set_cons_zero]
            go_big_quiet_want
            refine quiet_pure (.bool t) (fun W hW => exec_pick _ _ _ false _ rfl rfl rfl) ?_
            go_big_quiet_on
            simp only [Act.put, List.setIfInBounds_toArray, List.set_cons_succ, List.set_cons_zero]
            go_big_quiet_want
            refine quiet_pure (.bool t) (fun W hW => exec_pick _ _ _ true _ rfl rfl rfl) ?_
            go_big_quiet_on
            simp only [Act.put, List.setIfInBounds_toArray, List.set_cons_succ, List.set_cons_zero]
            refine wpQuiet_nil ?_
            intro wq bq
            have BE : Hid (Below w1.heap.size w1 wq) := later BQ.out bq
            clear ht
            go_wp2
            go_meet
            case rel => exact ⟨t, rfl, BN.out, BE.out⟩
      case rest =>
        obtain ⟨t, rfl, BN, BE⟩ := hcut
        clear PY QY HC BQ HBI
        cases t with
        | true =>
          have BT : Hid (Bst ws ip (i + 1) (i : Int)) := BN.out
          clear BN hx
          go_wp2
          go_roundw
          case rel => exact ⟨i + 1, (i : Int), by go_num, rfl, by omega, BT.out, BE.out⟩
          case measure => simp [intOf]; omega
        | false =>
          have BT : Hid (Bst ws ip (i + 1) bi) := BN.out
          clear BN hx
          go_wp2
          go_roundw
          case rel => exact ⟨i + 1, bi, by go_num, rfl, by omega, BT.out, BE.out⟩
          case measure => simp [intOf]; omega
    · have ei : m = i := by omega
      subst ei
      have HBE : Hid (Below w.heap.size w wr) := later HB1.out BI.out
      have CZ := hide (C2.out.later (by omega) BI.out)
      have FZ : Hid (∀ y, wr.frozen? ⟨s + 1, y, none⟩ = false) := fun y => (BI.out.frozen (p := ⟨s + 1, y, none⟩) z1).trans (F2.out y)
      rcases HBI.out with ⟨ebi, hn⟩ | ⟨b, z, ebi, h1, h2, h3, h4⟩
      · subst ebi
        have eM : Hid (fdN ws ip 33 = none) := Bst.none_ HK.out (by rw [← HM.out]; exact hn)
        have eE : Hid (fdE ws ip = 100) := by unfold Hid fdE; rw [if_pos eM.out]
        have eA : Hid (fdA ws ip = zI) := by unfold Hid fdA; rw [eM.out]
        have OA : Hid (∀ u ∈ Z, u.oneCell' = true) := by rw [HZ.out]; exact ip_one zI
        have ZE : Hid (Z.toArray = #[.int .u8 0, .int .u8 0, .int .u8 0, .int .u8 0]) := by rw [HZ.out]; exact rfl
        clear hn HBI
        go_wp2_with (refine wpList_storeA rfl 31 4 sizI _ _ rfl (s + 1) 0 rfl Z Z (by rw [ZE.out]; rfl) LZ.out LZ.out CZ.out FZ.out OA.out (fun hc => ?_))
        refine bodyPost_ret (v := .tuple #[zI.val, .int .i64 100]) ?_ rfl ⟨by rw [eA.out, eE.out], HBE.out.trans ((But.cells (s + 1) Z 0 wr).below HBE.out.size (fun g hg e => by have e : g = s + 1 := e; have := HS.out; omega))⟩
        have e : zI.val = .agg Z.toArray := by rw [HZ.out]; rfl
        rw [e]
        exact results_2 rfl _ _ (s + 1) _ _ rfl rfl (run_loadVarA 31 4 aggI sizI (s + 1) 0 _ LZ.out hc)
      · subst ebi
        obtain ⟨ea, hg2, hgc⟩ := GA.out (by omega)
        subst ea
        have eM : Hid (fdN ws ip 33 = some z) := Bst.some_ HK.out h2 h3 (by rw [← HM.out]; exact h4)
        have eE : Hid (fdE ws ip = 0) := by unfold Hid fdE; rw [if_neg (by rw [eM.out]; simp)]
        have cz : CellsAt wr ga (b * 10) z.cells := by
          have h := hgc b h1
          unfold wyc at h
          rw [h2] at h
          exact h.later hg2 BI.out
        obtain ⟨_, _, cg, cvia⟩ := Wy.parts cz
        have zb : (b : Int) < (m : Int) := by omega
        have zn : decide ((b : Int) < 0) = false := decide_eq_false (by omega)
        have z0 : (0 : Int) ≤ (b : Int) := by omega
        have mz : (m : Int) ≤ 8 := by omega
        have CVV := hide (C1.out.later (by omega) BI.out)
        have FIN : Hid (∀ (A : I4) , fdA ws ip = A → CellsAt (wr.setCells (s + 1) 0 A.vals) (s + 1) 0 A.vals → (Ending.returned (.tuple #[A.val, .int .i64 0]) = .returned (.tuple #[(fdA ws ip).val, .int .i64 (fdE ws ip)]) ∧ Below w.heap.size w (wr.setCells (s + 1) 0 A.vals))) := fun A hA hc => by
          rw [hA, eE.out]
          exact ⟨rfl, HBE.out.trans ((But.cells (s + 1) A.vals 0 wr).below HBE.out.size (fun g hg e => by have e : g = s + 1 := e; have := HS.out; omega))⟩
        have IXW : Hid (∀ (ev : Operand → Value) (o : Oper) (W : World) (x y : Operand), o.op = .indexAddr 27 x y → ev x = .slice (some ⟨ga, 0, none⟩) m vc → ev y = .int .i64 (b : Int) → (execOp ev o).run Try.prog W = .ok (.value (.pointer (some ⟨ga, b * 10, none⟩))) W) := fun ev o W x y ho hx hy => exec_ixW x y ga m vc b ho hx hy h1
        have CG0 := hide cg
        clear hgc hg2 h1 h2 h3 h4 HBI cz cg
        cases hv : z.via with
        | true =>
          have eA : Hid (fdA ws ip = z.gate) := by unfold Hid fdA; rw [eM.out]; exact if_pos hv
          rw [hv] at cvia
          obtain ⟨A, hA⟩ : ∃ A, A = z.gate := ⟨_, rfl⟩
          rw [← hA] at eA CG0
          obtain ⟨AV, hAV⟩ : ∃ AV, AV = A.vals := ⟨_, rfl⟩
          have LA : Hid (AV.length = 4) := by rw [hAV]; exact (rfl : A.vals.length = 4)
          have OA : Hid (∀ u ∈ AV, u.oneCell' = true) := by rw [hAV]; exact ip_one A
          rw [← hAV] at CG0
          have HAV := hide hAV
          clear hA hAV hv
          go_wp2_with (first | refine wpList_val rfl (IXW.out _ _ _ (.tmp 67) (.tmp 68) rfl rfl rfl) ?_ | refine wpList_val rfl (IXW.out _ _ _ (.tmp 75) (.tmp 76) rfl rfl rfl) ?_ | refine wpList_loadA rfl 31 4 aggI sizI _ rfl ga (b * 10 + 5) rfl AV LA.out CG0.out ?_ | refine wpList_storeA rfl 31 4 sizI _ _ rfl (s + 1) 0 rfl AV Z rfl LA.out LZ.out CZ.out FZ.out OA.out (fun hc => ?_))
          refine bodyPost_ret (v := .tuple #[A.val, .int .i64 0]) ?_ rfl (by rw [HAV.out]; exact FIN.out A eA.out (by rw [← HAV.out]; exact hc))
          have e : A.val = .agg AV.toArray := by rw [HAV.out]; rfl
          rw [e]
          exact results_2 rfl _ _ (s + 1) _ _ rfl rfl (run_loadVarA 31 4 aggI sizI (s + 1) 0 _ LA.out hc)
        | false =>
          have eA : Hid (fdA ws ip = ip) := by unfold Hid fdA; rw [eM.out]; exact if_neg (by rw [hv]; decide)
          rw [hv] at cvia
          have OA : Hid (∀ u ∈ V, u.oneCell' = true) := by rw [HV.out]; exact ip_one ip
          clear hv
          go_wp2_with (first | refine wpList_val rfl (IXW.out _ _ _ (.tmp 67) (.tmp 68) rfl rfl rfl) ?_ | refine wpList_loadA rfl 31 4 aggI sizI _ rfl s 0 rfl V LV.out CVV.out ?_ | refine wpList_storeA rfl 31 4 sizI _ _ rfl (s + 1) 0 rfl V Z rfl LV.out LZ.out CZ.out FZ.out OA.out (fun hc => ?_))
          refine bodyPost_ret (v := .tuple #[ip.val, .int .i64 0]) ?_ rfl (by rw [HV.out]; exact FIN.out ip eA.out (by rw [← HV.out]; exact hc))
          have e : ip.val = .agg V.toArray := by rw [HV.out]; rfl
          rw [e]
          exact results_2 rfl _ _ (s + 1) _ _ rfl rfl (run_loadVarA 31 4 aggI sizI (s + 1) 0 _ LV.out hc)
end Go.Proofs.Ytlfacppkgamkgaa
