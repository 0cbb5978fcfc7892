
/-
  The document's cache: Heard.
-/
import Derived.Test.YtdcpnjlldocdcaaC2
import Derived.Test.YtdcpnjlldocdcaaA27
namespace Go.Proofs.Ytdcpnjlldocdcaa
open Go.RowKit Go.Shelf

/-- after the neighbour has been seen to -/
def RMid (ρ : Nat → Role) (k : Nat) (W : World) (b : Nat) (m : M6) (i : I4) (a : Ar) (r : HdR) (s : Nat) (v : Value) (w : World) : Prop :=
  ∃ ρ', (∃ x n c, v = .slice x n c) ∧ Ca ρ' k w b m i r.L ∧ Fit ρ' w ∧ Mv k ρ ρ' W w ∧ RowN (fun g => Free ρ ρ' k W g ∧ g ≠ s + 1) w v r.may ∧ CellsAt w s 0 a.vals ∧ CellsAt w (s + 1) 0 zM.vals ∧ (∀ j, w.frozen? ⟨s + 1, j, none⟩ = false) ∧ ρ' (s + 1) = (0, 0, 0) ∧ s + 3 ≤ w.heap.size ∧ CellsAt w (s + 2) 0 r.mac.vals
theorem info_A : (Try.prog.info? 27).map (fun i => (i.zero, i.size, i.bytes)) = some (some (.agg (Ar.vals ⟨false, zM, zI, zM, zI⟩).toArray), 21, 21) := by kernel_rfl
/-- a request by itself is laid behind nothing -/
theorem arp_one (w : World) (q : Ar) : ∃ a' c' w2, (Builtin.append_ #[53, 53] 53 #[.slice none 0 0, .slice (some ⟨w.heap.size, 0, none⟩) 1 1]).run Try.prog (w.alloc (.cells q.vals.toArray 27)) = .ok (.slice a' 1 c') w2 ∧ RowF 21 (fun g => w.heap.size ≤ g) w2 (.slice a' 1 c') 1 (fun _ => q.vals) ∧ Below w.heap.size w w2 := by
  obtain ⟨i, hi, hz0, hz1, hz2⟩ := info_parts info_A
  have c1 := CellsAt.new w q.vals 27
  obtain ⟨a', c', w2, hrun, hR, hb⟩ := (RowF.nil 21 (fun _ => False) (w.alloc (.cells q.vals.toArray 27)) (fun _ => q.vals)).push 53 27 i _ Try.underlying53 hi hz0 hz1 (by omega) rfl (fun q hq => by omega) (fun q hq => by omega) q.vals rfl (ar_one _) w.heap.size c1 (by omega)
  refine ⟨a', c', w2, hrun, ?_, ((Below.refl _ w).alloc (Nat.le_refl _) _).trans (hb.below (by simp) (fun _ _ e => e.elim))⟩
  refine RowF.cong (c := fun q' => if q' < 0 then q.vals else q.vals) (hR.own (fun g _ e => ?_)) (fun q' hq => ?_)
  · rcases e with e | e
    · exact e.elim
    · rw [World.size_alloc] at e; omega
  · rw [if_neg (by omega)]

section
variable {ρ : Nat → Role} {k : Nat} {W : World} {b : Nat} {m : M6} {i : I4} {lv : Value} {Lt : List (Nat × Nb)} {L : List Nb}
set_option maxRecDepth 100000 in
set_option maxHeartbeats 8000000 in
theorem rheard_any (h : CAt ρ k W b m i lv Lt) (hF : Fit ρ W) (now : Int) (hok : LOk now (Lt.map Prod.snd)) (a : Ar) :
    Calls Try.prog 30 #[.pointer (some ⟨b, 0, none⟩), a.val, .int .i64 now] W (HdEnd ρ k W b m i a (hd i a now (Lt.map Prod.snd))) := by
  have hlen : Lt.length ≤ 8 := by have := hok.len; simpa using this
  obtain ⟨s, hs⟩ : ∃ s, s = W.heap.size := ⟨_, rfl⟩
  obtain ⟨w1, hw1⟩ : ∃ w1, w1 = (W.alloc (.cells a.vals.toArray 27)).alloc (.cells #[.int .u8 0, .int .u8 0, .int .u8 0, .int .u8 0, .int .u8 0, .int .u8 0] 23) := ⟨_, rfl⟩
  have hb1 : Below W.heap.size W w1 := by rw [hw1]; exact ((Below.refl _ W).alloc (Nat.le_refl _) _).alloc (by simp) _
  have sz1 : w1.heap.size = s + 2 := by rw [hw1]; simp [hs]
  have ca1 : CellsAt w1 s 0 a.vals := by
    rw [hw1, hs]
    exact (CellsAt.new W a.vals 27).but (by simp) ((But.refl (fun _ => False) _).alloc _) id
  have cm1 : CellsAt w1 (s + 1) 0 zM.vals := by
    have := CellsAt.new (W.alloc (.cells a.vals.toArray 27)) zM.vals 23
    rw [World.size_alloc, ← hs] at this
    rw [hw1]; exact this
  have fm1 : ∀ j, w1.frozen? ⟨s + 1, j, none⟩ = false := fun j => by
    have := frozen_new (W.alloc (.cells a.vals.toArray 27)) #[.int .u8 0, .int .u8 0, .int .u8 0, .int .u8 0, .int .u8 0, .int .u8 0] 23 j
    rw [World.size_alloc, ← hs] at this
    rw [hw1]; exact this
  have H1 := hide (h.later hb1)
  have F1 := hide (hF.below hb1.size)
  have HB1 := hide hb1
  have CA := hide ca1
  have CM := hide cm1
  have FM := hide fm1
  have SZ := hide sz1
  have HS := hide hs
  have HOK := hide hok
  have HF0 := hide hF
  have k0 := h.pos
  have RS : Hid (ρ s = (0, 0, 0) ∧ ρ (s + 1) = (0, 0, 0)) := ⟨hF s (by omega), hF (s + 1) (by omega)⟩
  clear hb1 ca1 cm1 fm1 sz1 hF
  rw [show a.val = .agg a.vals.toArray from rfl]
  go_enter Try.func30, Try.ntmps30
  have hw1' := hw1.symm
  have hs' := hs.symm
  clear hw1 hs
  have la : a.vals.length = 21 := rfl
  go_wp2_with fail
  clear hw1' hs'
  obtain ⟨wd, hwd⟩ : ∃ wd, wd = w1.drew := ⟨_, rfl⟩
  have bd : Below w1.heap.size w1 wd := by rw [hwd]; exact (Below.refl _ w1).drew
  have szd : wd.heap.size = s + 2 := by rw [hwd]; exact SZ.out
  have z1 := SZ.out
  have Hd := hide (H1.out.later bd)
  have Fd := hide (F1.out.below bd.size)
  have HBd : Hid (Below W.heap.size W wd) := HB1.out.trans (bd.mono HB1.out.size)
  have CAd := hide (CA.out.later (by omega) bd)
  have CMd := hide (CM.out.later (by omega) bd)
  have FMd : Hid (∀ j, wd.frozen? ⟨s + 1, j, none⟩ = false) := fun j => (bd.frozen (p := ⟨s + 1, j, none⟩) (by show s + 1 < _; omega)).trans (FM.out j)
  have SZd := hide szd
  have Sd : CellsAt wd s 7 a.si.vals ∧ CellsAt wd b 6 i.vals := ⟨(ar_parts CAd.out).2.1, (CellsAt.append.1 Hd.out.host).2⟩
  clear H1 F1 HB1 CA CM FM SZ bd szd z1
  refine region_out (fun W' => CellsAt W' s 7 a.si.vals ∧ CellsAt W' b 6 i.vals) (by kernel_rfl) ?_
  rw [← hwd]
  clear hwd
  cases eo : eqI a.si i with
  | true =>
    refine takeD (i := 0) (v := .pointer (some ⟨s, 7, none⟩)) 13 rfl rfl (by kernel_rfl) (by kernel_rfl) (by kernel_rfl) (fun _ _ _ h => h) (.inl ⟨by rfl, fun W hW => exec_fieldO 27 _ 2 s 0 7 rfl rfl (fun w => by kernel_rfl)⟩) (Sd) ?_
    try simp only [Act.put, List.setIfInBounds_toArray, List.set_cons_zero, List.set_cons_succ]
    refine takeD (i := 1) (v := .agg (a.si.vals).toArray) 14 rfl rfl (by kernel_rfl) (by kernel_rfl) (by kernel_rfl) (fun _ _ _ h => h) (.inl ⟨by rfl, fun W hW => exec_loadA 25 4 aggI sizI _ rfl s 7 rfl (a.si.vals) rfl (hW.1)⟩) (Sd) ?_
    try simp only [Act.put, List.setIfInBounds_toArray, List.set_cons_zero, List.set_cons_succ]
    refine takeD (i := 2) (v := .pointer (some ⟨b, 0, none⟩)) 15 rfl rfl (by kernel_rfl) (by kernel_rfl) (by kernel_rfl) (fun _ _ _ h => h) (.inl ⟨by rfl, fun W hW => exec_move _ _ rfl rfl⟩) (Sd) ?_
    try simp only [Act.put, List.setIfInBounds_toArray, List.set_cons_zero, List.set_cons_succ]
    refine takeD (i := 3) (v := .pointer (some ⟨b, 0, none⟩)) 16 rfl rfl (by kernel_rfl) (by kernel_rfl) (by kernel_rfl) (fun _ _ _ h => h) (.inl ⟨by rfl, fun W hW => exec_nil _ _ rfl rfl⟩) (Sd) ?_
    try simp only [Act.put, List.setIfInBounds_toArray, List.set_cons_zero, List.set_cons_succ]
    refine takeD (i := 4) (v := .pointer (some ⟨b, 6, none⟩)) 17 rfl rfl (by kernel_rfl) (by kernel_rfl) (by kernel_rfl) (fun _ _ _ h => h) (.inl ⟨by rfl, fun W hW => exec_fieldO 43 _ 1 b 0 6 rfl rfl (fun w => by kernel_rfl)⟩) (Sd) ?_
    try simp only [Act.put, List.setIfInBounds_toArray, List.set_cons_zero, List.set_cons_succ]
    refine takeD (i := 5) (v := .agg (i.vals).toArray) 18 rfl rfl (by kernel_rfl) (by kernel_rfl) (by kernel_rfl) (fun _ _ _ h => h) (.inl ⟨by rfl, fun W hW => exec_loadA 25 4 aggI sizI _ rfl b 6 rfl (i.vals) rfl (hW.2)⟩) (Sd) ?_
    try simp only [Act.put, List.setIfInBounds_toArray, List.set_cons_zero, List.set_cons_succ]
    refine takeD (i := 6) (v := .bool true) 19 rfl rfl (by kernel_rfl) (by kernel_rfl) (by kernel_rfl) (fun _ _ _ h => h) (.inl ⟨by rfl, fun W hW => exec_eqI _ _ _ a.si i _ rfl rfl rfl eo⟩) (Sd) ?_
    try simp only [Act.put, List.setIfInBounds_toArray, List.set_cons_zero, List.set_cons_succ]
    refine takeD (i := 7) (v := .bool true) 20 rfl rfl (by kernel_rfl) (by kernel_rfl) (by kernel_rfl) (fun _ _ _ h => h) (.inl ⟨by rfl, fun W hW => exec_move _ _ rfl rfl⟩) (Sd) ?_
    try simp only [Act.put, List.setIfInBounds_toArray, List.set_cons_zero, List.set_cons_succ]
    refine takeD (i := 8) (v := undef) 21 rfl rfl (by kernel_rfl) (by kernel_rfl) (by kernel_rfl) (fun _ _ _ h => h) (.inr ⟨by rfl, rfl⟩) (Sd) ?_
    try simp only [Act.put, List.setIfInBounds_toArray, List.set_cons_zero, List.set_cons_succ]
    refine takeD (i := 9) (v := undef) 22 rfl rfl (by kernel_rfl) (by kernel_rfl) (by kernel_rfl) (fun _ _ _ h => h) (.inr ⟨by rfl, rfl⟩) (Sd) ?_
    try simp only [Act.put, List.setIfInBounds_toArray, List.set_cons_zero, List.set_cons_succ]
    refine takeD (i := 10) (v := undef) 23 rfl rfl (by kernel_rfl) (by kernel_rfl) (by kernel_rfl) (fun _ _ _ h => h) (.inr ⟨by rfl, rfl⟩) (Sd) ?_
    try simp only [Act.put, List.setIfInBounds_toArray, List.set_cons_zero, List.set_cons_succ]
    refine takeD (i := 11) (v := undef) 24 rfl rfl (by kernel_rfl) (by kernel_rfl) (by kernel_rfl) (fun _ _ _ h => h) (.inr ⟨by rfl, rfl⟩) (Sd) ?_
    try simp only [Act.put, List.setIfInBounds_toArray, List.set_cons_zero, List.set_cons_succ]
    refine takeD (i := 12) (v := .bool true) 25 rfl rfl (by kernel_rfl) (by kernel_rfl) (by kernel_rfl) (fun _ _ _ h => h) (.inl ⟨by rfl, fun W hW => exec_pick _ _ _ true _ rfl rfl rfl⟩) (Sd) ?_
    try simp only [Act.put, List.setIfInBounds_toArray, List.set_cons_zero, List.set_cons_succ]
    refine wpAnyH_done (by kernel_rfl) ?_ _
    clear Sd
    have EH : Hid (hd i a now (Lt.map Prod.snd) = ⟨false, [], zM, Lt.map Prod.snd⟩) := by unfold Hid hd; rw [if_pos (by first | exact .inl eo | exact .inr ez)]
    have FIN : Hid (HdEnd ρ k W b m i a (hd i a now (Lt.map Prod.snd)) (.returned (.tuple #[.slice none 0 0, .slice none 0 0, zM.val])) (wd.setCells (s + 1) 0 zM.vals)) := by
      unfold Hid
      rw [EH.out]
      exact HdEnd.fin (r := ⟨false, [], zM, Lt.map Prod.snd⟩) ⟨_, _, rfl, Hd.out⟩ Fd.out (Mv.below HBd.out) (s + 1) (by have := HS.out; omega) RS.out.2 (But.cells (s + 1) zM.vals 0 wd) (RowN.nil _ _) (RowF.nil _ _ _ _)
    have LV := hide (run_loadVarA 23 6 aggM sizM (s + 1) 0 zM.vals rfl (CMd.out.stored rfl))
    have z0 := CMd.out 0 _ rfl
    have z1 := CMd.out 1 _ rfl
    have z2 := CMd.out 2 _ rfl
    have z3 := CMd.out 3 _ rfl
    have z4 := CMd.out 4 _ rfl
    have z5 := CMd.out 5 _ rfl
    simp only [Nat.zero_add] at z0 z1 z2 z3 z4 z5
    have zf := FMd.out
    go_wp2
    refine bodyPost_ret (v := .tuple #[.slice none 0 0, .slice none 0 0, zM.val]) ?_ rfl FIN.out
    exact results_3 rfl _ _ (s + 1) _ _ _ rfl rfl rfl LV.out
  | false =>
    cases ez : eqI a.si zI with
    | true =>
      refine takeD (i := 0) (v := .pointer (some ⟨s, 7, none⟩)) 13 rfl rfl (by kernel_rfl) (by kernel_rfl) (by kernel_rfl) (fun _ _ _ h => h) (.inl ⟨by rfl, fun W hW => exec_fieldO 27 _ 2 s 0 7 rfl rfl (fun w => by kernel_rfl)⟩) (Sd) ?_
      try simp only [Act.put, List.setIfInBounds_toArray, List.set_cons_zero, List.set_cons_succ]
      refine takeD (i := 1) (v := .agg (a.si.vals).toArray) 14 rfl rfl (by kernel_rfl) (by kernel_rfl) (by kernel_rfl) (fun _ _ _ h => h) (.inl ⟨by rfl, fun W hW => exec_loadA 25 4 aggI sizI _ rfl s 7 rfl (a.si.vals) rfl (hW.1)⟩) (Sd) ?_
      try simp only [Act.put, List.setIfInBounds_toArray, List.set_cons_zero, List.set_cons_succ]
      refine takeD (i := 2) (v := .pointer (some ⟨b, 0, none⟩)) 15 rfl rfl (by kernel_rfl) (by kernel_rfl) (by kernel_rfl) (fun _ _ _ h => h) (.inl ⟨by rfl, fun W hW => exec_move _ _ rfl rfl⟩) (Sd) ?_
      try simp only [Act.put, List.setIfInBounds_toArray, List.set_cons_zero, List.set_cons_succ]
      refine takeD (i := 3) (v := .pointer (some ⟨b, 0, none⟩)) 16 rfl rfl (by kernel_rfl) (by kernel_rfl) (by kernel_rfl) (fun _ _ _ h => h) (.inl ⟨by rfl, fun W hW => exec_nil _ _ rfl rfl⟩) (Sd) ?_
      try simp only [Act.put, List.setIfInBounds_toArray, List.set_cons_zero, List.set_cons_succ]
      refine takeD (i := 4) (v := .pointer (some ⟨b, 6, none⟩)) 17 rfl rfl (by kernel_rfl) (by kernel_rfl) (by kernel_rfl) (fun _ _ _ h => h) (.inl ⟨by rfl, fun W hW => exec_fieldO 43 _ 1 b 0 6 rfl rfl (fun w => by kernel_rfl)⟩) (Sd) ?_
      try simp only [Act.put, List.setIfInBounds_toArray, List.set_cons_zero, List.set_cons_succ]
      refine takeD (i := 5) (v := .agg (i.vals).toArray) 18 rfl rfl (by kernel_rfl) (by kernel_rfl) (by kernel_rfl) (fun _ _ _ h => h) (.inl ⟨by rfl, fun W hW => exec_loadA 25 4 aggI sizI _ rfl b 6 rfl (i.vals) rfl (hW.2)⟩) (Sd) ?_
      try simp only [Act.put, List.setIfInBounds_toArray, List.set_cons_zero, List.set_cons_succ]
      refine takeD (i := 6) (v := .bool false) 19 rfl rfl (by kernel_rfl) (by kernel_rfl) (by kernel_rfl) (fun _ _ _ h => h) (.inl ⟨by rfl, fun W hW => exec_eqI _ _ _ a.si i _ rfl rfl rfl eo⟩) (Sd) ?_
      try simp only [Act.put, List.setIfInBounds_toArray, List.set_cons_zero, List.set_cons_succ]
      refine takeD (i := 7) (v := .bool false) 20 rfl rfl (by kernel_rfl) (by kernel_rfl) (by kernel_rfl) (fun _ _ _ h => h) (.inl ⟨by rfl, fun W hW => exec_move _ _ rfl rfl⟩) (Sd) ?_
      try simp only [Act.put, List.setIfInBounds_toArray, List.set_cons_zero, List.set_cons_succ]
      refine takeD (i := 8) (v := .pointer (some ⟨s, 7, none⟩)) 21 rfl rfl (by kernel_rfl) (by kernel_rfl) (by kernel_rfl) (fun _ _ _ h => h) (.inl ⟨by rfl, fun W hW => exec_fieldO 27 _ 2 s 0 7 rfl rfl (fun w => by kernel_rfl)⟩) (Sd) ?_
      try simp only [Act.put, List.setIfInBounds_toArray, List.set_cons_zero, List.set_cons_succ]
      refine takeD (i := 9) (v := .agg (a.si.vals).toArray) 22 rfl rfl (by kernel_rfl) (by kernel_rfl) (by kernel_rfl) (fun _ _ _ h => h) (.inl ⟨by rfl, fun W hW => exec_loadA 25 4 aggI sizI _ rfl s 7 rfl (a.si.vals) rfl (hW.1)⟩) (Sd) ?_
      try simp only [Act.put, List.setIfInBounds_toArray, List.set_cons_zero, List.set_cons_succ]
      refine takeD (i := 10) (v := .agg zI.vals.toArray) 23 rfl rfl (by kernel_rfl) (by kernel_rfl) (by kernel_rfl) (fun _ _ _ h => h) (.inl ⟨by rfl, fun W hW => exec_zI rfl⟩) (Sd) ?_
      try simp only [Act.put, List.setIfInBounds_toArray, List.set_cons_zero, List.set_cons_succ]
      refine takeD (i := 11) (v := .bool true) 24 rfl rfl (by kernel_rfl) (by kernel_rfl) (by kernel_rfl) (fun _ _ _ h => h) (.inl ⟨by rfl, fun W hW => exec_eqI _ _ _ a.si zI _ rfl rfl rfl ez⟩) (Sd) ?_
      try simp only [Act.put, List.setIfInBounds_toArray, List.set_cons_zero, List.set_cons_succ]
      refine takeD (i := 12) (v := .bool true) 25 rfl rfl (by kernel_rfl) (by kernel_rfl) (by kernel_rfl) (fun _ _ _ h => h) (.inl ⟨by rfl, fun W hW => exec_pick _ _ _ false _ rfl rfl rfl⟩) (Sd) ?_
      try simp only [Act.put, List.setIfInBounds_toArray, List.set_cons_zero, List.set_cons_succ]
      refine wpAnyH_done (by kernel_rfl) ?_ _
      clear Sd
      have EH : Hid (hd i a now (Lt.map Prod.snd) = ⟨false, [], zM, Lt.map Prod.snd⟩) := by unfold Hid hd; rw [if_pos (by first | exact .inl eo | exact .inr ez)]
      have FIN : Hid (HdEnd ρ k W b m i a (hd i a now (Lt.map Prod.snd)) (.returned (.tuple #[.slice none 0 0, .slice none 0 0, zM.val])) (wd.setCells (s + 1) 0 zM.vals)) := by
        unfold Hid
        rw [EH.out]
        exact HdEnd.fin (r := ⟨false, [], zM, Lt.map Prod.snd⟩) ⟨_, _, rfl, Hd.out⟩ Fd.out (Mv.below HBd.out) (s + 1) (by have := HS.out; omega) RS.out.2 (But.cells (s + 1) zM.vals 0 wd) (RowN.nil _ _) (RowF.nil _ _ _ _)
      have LV := hide (run_loadVarA 23 6 aggM sizM (s + 1) 0 zM.vals rfl (CMd.out.stored rfl))
      have z0 := CMd.out 0 _ rfl
      have z1 := CMd.out 1 _ rfl
      have z2 := CMd.out 2 _ rfl
      have z3 := CMd.out 3 _ rfl
      have z4 := CMd.out 4 _ rfl
      have z5 := CMd.out 5 _ rfl
      simp only [Nat.zero_add] at z0 z1 z2 z3 z4 z5
      have zf := FMd.out
      go_wp2
      refine bodyPost_ret (v := .tuple #[.slice none 0 0, .slice none 0 0, zM.val]) ?_ rfl FIN.out
      exact results_3 rfl _ _ (s + 1) _ _ _ rfl rfl rfl LV.out
    | false =>
      refine takeD (i := 0) (v := .pointer (some ⟨s, 7, none⟩)) 13 rfl rfl (by kernel_rfl) (by kernel_rfl) (by kernel_rfl) (fun _ _ _ h => h) (.inl ⟨by rfl, fun W hW => exec_fieldO 27 _ 2 s 0 7 rfl rfl (fun w => by kernel_rfl)⟩) (Sd) ?_
      try simp only [Act.put, List.setIfInBounds_toArray, List.set_cons_zero, List.set_cons_succ]
      refine takeD (i := 1) (v := .agg (a.si.vals).toArray) 14 rfl rfl (by kernel_rfl) (by kernel_rfl) (by kernel_rfl) (fun _ _ _ h => h) (.inl ⟨by rfl, fun W hW => exec_loadA 25 4 aggI sizI _ rfl s 7 rfl (a.si.vals) rfl (hW.1)⟩) (Sd) ?_
      try simp only [Act.put, List.setIfInBounds_toArray, List.set_cons_zero, List.set_cons_succ]
      refine takeD (i := 2) (v := .pointer (some ⟨b, 0, none⟩)) 15 rfl rfl (by kernel_rfl) (by kernel_rfl) (by kernel_rfl) (fun _ _ _ h => h) (.inl ⟨by rfl, fun W hW => exec_move _ _ rfl rfl⟩) (Sd) ?_
      try simp only [Act.put, List.setIfInBounds_toArray, List.set_cons_zero, List.set_cons_succ]
      refine takeD (i := 3) (v := .pointer (some ⟨b, 0, none⟩)) 16 rfl rfl (by kernel_rfl) (by kernel_rfl) (by kernel_rfl) (fun _ _ _ h => h) (.inl ⟨by rfl, fun W hW => exec_nil _ _ rfl rfl⟩) (Sd) ?_
      try simp only [Act.put, List.setIfInBounds_toArray, List.set_cons_zero, List.set_cons_succ]
      refine takeD (i := 4) (v := .pointer (some ⟨b, 6, none⟩)) 17 rfl rfl (by kernel_rfl) (by kernel_rfl) (by kernel_rfl) (fun _ _ _ h => h) (.inl ⟨by rfl, fun W hW => exec_fieldO 43 _ 1 b 0 6 rfl rfl (fun w => by kernel_rfl)⟩) (Sd) ?_
      try simp only [Act.put, List.setIfInBounds_toArray, List.set_cons_zero, List.set_cons_succ]
      refine takeD (i := 5) (v := .agg (i.vals).toArray) 18 rfl rfl (by kernel_rfl) (by kernel_rfl) (by kernel_rfl) (fun _ _ _ h => h) (.inl ⟨by rfl, fun W hW => exec_loadA 25 4 aggI sizI _ rfl b 6 rfl (i.vals) rfl (hW.2)⟩) (Sd) ?_
      try simp only [Act.put, List.setIfInBounds_toArray, List.set_cons_zero, List.set_cons_succ]
      refine takeD (i := 6) (v := .bool false) 19 rfl rfl (by kernel_rfl) (by kernel_rfl) (by kernel_rfl) (fun _ _ _ h => h) (.inl ⟨by rfl, fun W hW => exec_eqI _ _ _ a.si i _ rfl rfl rfl eo⟩) (Sd) ?_
      try simp only [Act.put, List.setIfInBounds_toArray, List.set_cons_zero, List.set_cons_succ]
      refine takeD (i := 7) (v := .bool false) 20 rfl rfl (by kernel_rfl) (by kernel_rfl) (by kernel_rfl) (fun _ _ _ h => h) (.inl ⟨by rfl, fun W hW => exec_move _ _ rfl rfl⟩) (Sd) ?_
      try simp only [Act.put, List.setIfInBounds_toArray, List.set_cons_zero, List.set_cons_succ]
      refine takeD (i := 8) (v := .pointer (some ⟨s, 7, none⟩)) 21 rfl rfl (by kernel_rfl) (by kernel_rfl) (by kernel_rfl) (fun _ _ _ h => h) (.inl ⟨by rfl, fun W hW => exec_fieldO 27 _ 2 s 0 7 rfl rfl (fun w => by kernel_rfl)⟩) (Sd) ?_
      try simp only [Act.put, List.setIfInBounds_toArray, List.set_cons_zero, List.set_cons_succ]
      refine takeD (i := 9) (v := .agg (a.si.vals).toArray) 22 rfl rfl (by kernel_rfl) (by kernel_rfl) (by kernel_rfl) (fun _ _ _ h => h) (.inl ⟨by rfl, fun W hW => exec_loadA 25 4 aggI sizI _ rfl s 7 rfl (a.si.vals) rfl (hW.1)⟩) (Sd) ?_
      try simp only [Act.put, List.setIfInBounds_toArray, List.set_cons_zero, List.set_cons_succ]
      refine takeD (i := 10) (v := .agg zI.vals.toArray) 23 rfl rfl (by kernel_rfl) (by kernel_rfl) (by kernel_rfl) (fun _ _ _ h => h) (.inl ⟨by rfl, fun W hW => exec_zI rfl⟩) (Sd) ?_
      try simp only [Act.put, List.setIfInBounds_toArray, List.set_cons_zero, List.set_cons_succ]
      refine takeD (i := 11) (v := .bool false) 24 rfl rfl (by kernel_rfl) (by kernel_rfl) (by kernel_rfl) (fun _ _ _ h => h) (.inl ⟨by rfl, fun W hW => exec_eqI _ _ _ a.si zI _ rfl rfl rfl ez⟩) (Sd) ?_
      try simp only [Act.put, List.setIfInBounds_toArray, List.set_cons_zero, List.set_cons_succ]
      refine takeD (i := 12) (v := .bool false) 25 rfl rfl (by kernel_rfl) (by kernel_rfl) (by kernel_rfl) (fun _ _ _ h => h) (.inl ⟨by rfl, fun W hW => exec_pick _ _ _ false _ rfl rfl rfl⟩) (Sd) ?_
      try simp only [Act.put, List.setIfInBounds_toArray, List.set_cons_zero, List.set_cons_succ]
      refine wpAnyH_done (by kernel_rfl) ?_ _
      clear Sd
      have NH : Hid (¬ (eqI a.si i = true ∨ eqI a.si zI = true)) := fun e => by rcases e with e | e <;> simp_all
      clear eo ez
      obtain ⟨w2a, hw2a⟩ : ∃ w2a, w2a = wd.alloc (.cells #[.int .u8 0, .int .u8 0, .int .u8 0, .int .u8 0, .int .u8 0, .int .u8 0] 23) := ⟨_, rfl⟩
      have CTa : Hid (CellsAt w2a (s + 2) 0 zM.vals) := by rw [hw2a, ← SZd.out]; exact CellsAt.new wd zM.vals 23
      have FTa : Hid (∀ j, w2a.frozen? ⟨s + 2, j, none⟩ = false) := fun j => by rw [hw2a, ← SZd.out]; exact frozen_new wd _ _ _
      obtain ⟨w2, hw2⟩ : ∃ w2, w2 = w2a.setCells (s + 2) 0 zM.vals := ⟨_, rfl⟩
      have bda : Below wd.heap.size wd w2a := by rw [hw2a]; exact (Below.refl _ _).alloc (Nat.le_refl _) _
      have bd : Below wd.heap.size wd w2 := by rw [hw2]; exact bda.trans ((But.cells (s + 2) zM.vals 0 w2a).below bda.size (fun g hg e => by have e : g = s + 2 := e; have := SZd.out; omega))
      have z1 := SZd.out
      have H2 := hide (Hd.out.later bd)
      have F2 := hide (Fd.out.below bd.size)
      have HB2 : Hid (Below W.heap.size W w2) := HBd.out.trans (bd.mono HBd.out.size)
      have CA2 := hide (CAd.out.later (by omega) bd)
      have CM2 := hide (CMd.out.later (by omega) bd)
      have FM2 : Hid (∀ j, w2.frozen? ⟨s + 1, j, none⟩ = false) := fun j => (bd.frozen (p := ⟨s + 1, j, none⟩) (by show s + 1 < _; omega)).trans (FMd.out j)
      have SZ2 : Hid (w2.heap.size = s + 3) := by unfold Hid; rw [hw2, size_setCells, hw2a, World.size_alloc, z1]
      have CT2 : Hid (CellsAt w2 (s + 2) 0 zM.vals) := by rw [hw2]; exact CTa.out.stored rfl
      have FT2 : Hid (∀ j, w2.frozen? ⟨s + 2, j, none⟩ = false) := fun j => by rw [hw2, World.frozen?_setCells]; exact FTa.out j
      have AT := hide (at_any H2.out (by omega) a.si)
      rw [show a.si.val = .agg #[.int .u8 a.si.a, .int .u8 a.si.b, .int .u8 a.si.c, .int .u8 a.si.d] from rfl] at AT
      have pa := (ar_parts CA2.out).2.1
      have y0 := pa 0 _ rfl
      have y1 := pa 1 _ rfl
      have y2 := pa 2 _ rfl
      have y3 := pa 3 _ rfl
      simp only [Nat.reduceAdd] at y0 y1 y2 y3
      have hw2' := hw2.symm
      have hw2a' := hw2a.symm
      have z1' := z1
      clear hw2 hw2a bd bda Hd Fd HBd CAd CMd FMd SZd pa z1
      go_wp2_with (refine wpList_storeA rfl 23 6 sizM _ _ rfl (s + 2) 0 rfl zM.vals zM.vals rfl rfl rfl CTa.out FTa.out (m6_one _) (fun _ => ?_))
      clear y0 y1 y2 y3 hw2' hw2a' z1' CTa FTa
      refine AT.out.mono ?_
      rintro _ w3 ⟨rfl, hb3⟩
      have z2 := SZ2.out
      have H3 := hide (H2.out.later hb3)
      have F3 := hide (F2.out.below hb3.size)
      have HB3 : Hid (Below W.heap.size W w3) := HB2.out.trans (hb3.mono HB2.out.size)
      have CA3 := hide (CA2.out.later (by omega) hb3)
      have CM3 := hide (CM2.out.later (by omega) hb3)
      have CT3 := hide (CT2.out.later (by omega) hb3)
      have FM3 : Hid (∀ j, w3.frozen? ⟨s + 1, j, none⟩ = false) := fun j => (hb3.frozen (p := ⟨s + 1, j, none⟩) (by show s + 1 < _; omega)).trans (FM2.out j)
      have FT3 : Hid (∀ j, w3.frozen? ⟨s + 2, j, none⟩ = false) := fun j => (hb3.frozen (p := ⟨s + 2, j, none⟩) (by show s + 2 < _; omega)).trans (FT2.out j)
      have SZ3 : Hid (s + 3 ≤ w3.heap.size) := by have := hb3.size; unfold Hid; omega
      have RT : Hid (ρ (s + 2) = (0, 0, 0)) := HF0.out (s + 2) (by have := HS.out; omega)
      clear AT H2 F2 HB2 CA2 CM2 CT2 FM2 FT2 SZ2 hb3 z2
      obtain ⟨r, hr⟩ : ∃ r, r = hd i a now (Lt.map Prod.snd) := ⟨_, rfl⟩
      obtain ⟨ai, hai⟩ : ∃ ai, ai = atI a.si (Lt.map Prod.snd) := ⟨_, rfl⟩
      rw [← hai]
      have HAI := hide hai
      clear hai
      go_upto_if 33 with fail
      go_cut [10] (fun v10 wx => Hid (RMid ρ k W b m i a r s v10 wx))
      case first =>
        cases hf : fndI a.si (Lt.map Prod.snd) with
        | some q =>
          obtain ⟨x, hx, hxi⟩ := fndI_spec hf
          obtain ⟨t, hq⟩ := get_snd hx
          have ER : Hid (r = ⟨!a.ans && eqI a.di i, x.pd, if x.pd = [] then zM else a.sm, (Lt.map Prod.snd).set q { x with mac := a.sm, st := 2, since := now, tries := 0, pd := [] }⟩) := by
            unfold Hid
            rw [hr]
            unfold hd
            rw [if_neg NH.out, hf]
            simp only [hx]
          have hql : q < Lt.length := (List.getElem?_eq_some_iff.1 hq).1
          have HXI := hide hxi
          obtain ⟨V0, hR0, hP0⟩ := H3.out.row.parts
          obtain ⟨a9, c, e9, -⟩ := H3.out.row
          rw [e9] at hR0
          obtain ⟨g, eg, hg0, hro, -, hc0⟩ := hR0.at (by omega)
          cases eg
          have hlv : lv = .slice (some ⟨g, 0, none⟩) Lt.length c := e9
          have HLV := hide hlv
          have HRG : Hid (ρ g = (k, 1, 0)) := hro
          have HG3 : Hid (g < w3.heap.size) := hg0
          have cx0 := hc0 q hql
          rw [nbc_at hq] at cx0
          obtain ⟨hrow0, hnil0⟩ := hP0 q t x hq
          obtain ⟨va, vc, hV0⟩ := hrow0.shape
          obtain ⟨pn, hpn⟩ : ∃ pn, pn = x.pd.length := ⟨_, rfl⟩
          have C14 : Hid (w3.cell? ⟨g, q * 15 + 14, none⟩ = some (.slice va pn vc)) := by unfold Hid; rw [hpn, ← hV0]; exact cx0 14 _ rfl
          have HPN := hide hpn
          obtain ⟨nl, hnl⟩ : ∃ nl, nl = Lt.length := ⟨_, rfl⟩
          have HNL := hide hnl
          have xl : w3.cell? ⟨b, 10, none⟩ = some (.slice (some ⟨g, 0, none⟩) nl c) := by rw [hnl, ← hlv]; exact H3.out.lst
          have x14 := C14.out
          have zq : (q : Int) < (nl : Int) := by omega
          have hgs : g < W.heap.size := Classical.byContradiction fun hn => by
            rw [HF0.out g (by omega)] at hro
            simp at hro
          have HSG : Hid (g < s) := by have := HS.out; unfold Hid; omega
          have ea : ai = (q : Int) := by rw [HAI.out]; unfold atI; rw [hf]
          subst ea
          by_cases he : x.pd = []
          · have p0 : ¬ (0 : Int) < (pn : Int) := by rw [HPN.out, he]; simp
            have p1 : decide ((0 : Int) < (pn : Int)) = false := decide_eq_false p0
            obtain ⟨w4, hw4⟩ : ∃ w4, w4 = w3 := ⟨_, rfl⟩
            have H4 : Hid (CAt ρ k w4 b m i lv Lt) := by rw [hw4]; exact H3.out
            have F4 : Hid (Fit ρ w4) := by rw [hw4]; exact F3.out
            have CA4 : Hid (CellsAt w4 s 0 a.vals) := by rw [hw4]; exact CA3.out
            have CM4 : Hid (CellsAt w4 (s + 1) 0 zM.vals) := by rw [hw4]; exact CM3.out
            have FM4 : Hid (∀ j, w4.frozen? ⟨s + 1, j, none⟩ = false) := by rw [hw4]; exact FM3.out
            have CT4 : Hid (CellsAt w4 (s + 2) 0 (if x.pd = [] then zM else a.sm).vals) := by rw [hw4, if_pos he]; exact CT3.out
            have SZ4 : Hid (s + 3 ≤ w4.heap.size) := by rw [hw4]; exact SZ3.out
            have M4 : Hid (But (fun j => (ρ j).1 = k) W w4) := by rw [hw4]; exact But.of_below HB3.out
            rw [← hw4] at C14 HG3 xl x14 ⊢
            clear hr hf hx hxi hR0 hP0 hg0 hro hc0 cx0 hrow0 hnil0 hV0 hpn hnl hlv hgs he hw4 e9
            go_wp2_with fail
            clear xl x14 zq p0 p1
            obtain ⟨w5, hw5⟩ : ∃ w5, w5 = w4.drew := ⟨_, rfl⟩
            have b5 : Below w4.heap.size w4 w5 := by rw [hw5]; exact (Below.refl _ w4).drew
            have sz5 : w5.heap.size = w4.heap.size := by rw [hw5]; rfl
            have H5 := H4.out.later b5
            obtain ⟨V, hR3, hP3⟩ := H5.row.parts
            rw [HLV.out] at hR3
            obtain ⟨g', eg, hg3, _, hfz, hcs⟩ := hR3.at (by omega)
            cases eg
            have cx := hcs q hql
            rw [nbc_at hq] at cx
            obtain ⟨hrow, hnil⟩ := hP3 q t x hq
            have eV : V q = .slice va x.pd.length vc := by
              have c1 := cx 14 (V q) rfl
              have c2 : w5.cell? ⟨g, q * 15 + 14, none⟩ = some (.slice va x.pd.length vc) := by rw [← HPN.out]; exact (b5.cell (p := ⟨g, q * 15 + 14, none⟩) (by have := HG3.out; show g < _; omega)).trans C14.out
              exact Option.some.inj (c1.symm.trans c2)
            have xi : x.ip = a.si := HXI.out
            obtain ⟨w6, hw6⟩ : ∃ w6, w6 = w5.setCells g (q * 15) (Nb.cells ⟨a.si, 2, a.sm, now, x.asked, 0, []⟩ (.slice none 0 0)) := ⟨_, rfl⟩
            have n6 : Near w5 w6 g (q * 15) := by
              rw [hw6]
              have := (Near.refl w5 g (q * 15)).cells 0 (Nb.cells ⟨a.si, 2, a.sm, now, x.asked, 0, []⟩ (.slice none 0 0)) (by rw [Nb.cells_len]; omega) (fun j hj => by rw [Nat.add_zero]; exact cx.is j (by rw [Nb.cells_len] at hj ⊢; exact hj))
              rw [Nat.add_zero] at this
              exact this
            have p6 : CellsAt w6 g (q * 15) (Nb.cells { x with mac := a.sm, st := 2, since := now, tries := 0, pd := [] } (.slice none 0 0)) := by
              rw [hw6]
              have : (Nb.cells { x with mac := a.sm, st := 2, since := now, tries := 0, pd := [] } (.slice none 0 0)) = (Nb.cells ⟨a.si, 2, a.sm, now, x.asked, 0, []⟩ (.slice none 0 0)) := by rw [← xi]
              rw [this]
              exact cx.stored rfl
            obtain ⟨ρ', hρ'⟩ : ∃ ρ' : Nat → Role, ∀ j, ρ' j = if ρ j = (k, 2, t) then (0, 0, 0) else ρ j := ⟨_, fun _ => rfl⟩
            have h6 : CAt ρ' k w6 b m i lv (Lt.set q (t, { x with mac := a.sm, st := 2, since := now, tries := 0, pd := [] })) := H5.turn hq HLV.out (But.refl _ _) n6 p6 (fun j _ e => by rw [hρ', if_neg e]) (RowN.nil _ _) (fun _ => rfl)
            have hrg := HRG.out
            have z6 := n6.but.size
            have sp := SZ4.out
            have F5 := F4.out.below b5.size
            have rN := hrow.but (W' := w6) n6.but (fun j e e2 => by have e2 : j = g := e2; rw [e2, hrg] at e; simp at e)
            have sgs := HSG.out
            have FIN : Hid (RMid ρ k W b m i a r s (.slice va pn vc) w6) := by
              unfold Hid
              rw [ER.out]
              refine ⟨ρ', ⟨_, _, _, rfl⟩, ⟨_, _, List.map_set, h6⟩, fun j hj => ?_, ⟨fun j hj hn => ?_, ?_⟩, ?_, (CA4.out.later (by omega) b5).but (by omega) n6.but (fun e => by have e : s = g := e; omega), (CM4.out.later (by omega) b5).but (by omega) n6.but (fun e => by have e : s + 1 = g := e; omega), fun j => (n6.but.frozen (p := ⟨s + 1, j, none⟩) (by show s + 1 < _; omega) (fun e => by have e : s + 1 = g := e; omega)).trans ((b5.frozen (p := ⟨s + 1, j, none⟩) (by show s + 1 < _; omega)).trans (FM4.out j)), ?_, by omega, ?_⟩
              · rw [hρ', if_neg (by rw [F5 j (by omega)]; simp)]; exact F5 j (by omega)
              · rw [hρ', if_neg (fun e => hn (by rw [e]))]
              · exact (M4.out.trans' (But.of_below (K := fun _ => False) b5) (fun _ _ e => e.elim)).trans' n6.but (fun j _ e => by have e : j = g := e; rw [e, hrg])
              · rw [HPN.out, ← eV]
                refine rN.own (fun j _ e => ⟨⟨by rw [hρ', if_pos e], .inr (by rw [e])⟩, fun e2 => ?_⟩)
                rw [e2, RS.out.2] at e
                simp at e
              · rw [hρ', if_neg (by rw [RS.out.2]; simp)]; exact RS.out.2
              · exact (CT4.out.later (by omega) b5).but (by omega) n6.but (fun e => by have e : s + 2 = g := e; omega)
            have SS : ∀ W', Below w4.heap.size w4 W' → W'.cell? ⟨b, 10, none⟩ = some (.slice (some ⟨g, 0, none⟩) nl c) ∧ CellsAt W' s 7 a.si.vals ∧ CellsAt W' s 1 a.sm.vals ∧ W'.cell? ⟨g, q * 15 + 12, none⟩ = some (.int .i64 x.asked) := fun W' hb => by
              have hb5 : W'.cell? ⟨g, q * 15 + 12, none⟩ = w4.cell? ⟨g, q * 15 + 12, none⟩ := hb.cell (p := ⟨g, q * 15 + 12, none⟩) (by have := HG3.out; show g < _; omega)
              have hb6 : w5.cell? ⟨g, q * 15 + 12, none⟩ = w4.cell? ⟨g, q * 15 + 12, none⟩ := b5.cell (p := ⟨g, q * 15 + 12, none⟩) (by have := HG3.out; show g < _; omega)
              refine ⟨?_, (ar_parts (CA4.out.later (by omega) hb)).2.1, (ar_parts (CA4.out.later (by omega) hb)).1, by rw [hb5, ← hb6]; exact cx 12 _ rfl⟩
              have := (hb.cell (p := ⟨b, 10, none⟩) H4.out.lt).trans H4.out.lst
              rw [HLV.out, ← HNL.out] at this
              exact this
            have ix : q < nl := by have := HNL.out; omega
            clear H5 hR3 hP3 hcs hrow hnil rN h6 p6 F5 hg3 eV z6
            refine regionJ (fun j => j != 20) (fun W' => W'.cell? ⟨b, 10, none⟩ = some (.slice (some ⟨g, 0, none⟩) nl c) ∧ CellsAt W' s 7 a.si.vals ∧ CellsAt W' s 1 a.sm.vals ∧ W'.cell? ⟨g, q * 15 + 12, none⟩ = some (.int .i64 x.asked)) (by kernel_rfl) ?_
            rw [← hw5]
            refine takeJ (i := 0) (v := .pointer (some ⟨b, 0, none⟩)) 47 rfl rfl (by kernel_rfl) (by kernel_rfl) (by kernel_rfl) (by kernel_rfl) (fun _ _ _ h => h) (.inl ⟨by rfl, fun W hW => exec_move _ _ rfl rfl⟩) (SS w5 b5) ?_
            try simp only [Act.put, List.setIfInBounds_toArray, List.set_cons_zero, List.set_cons_succ]
            refine takeJ (i := 1) (v := .pointer (some ⟨b, 0, none⟩)) 48 rfl rfl (by kernel_rfl) (by kernel_rfl) (by kernel_rfl) (by kernel_rfl) (fun _ _ _ h => h) (.inl ⟨by rfl, fun W hW => exec_nil _ _ rfl rfl⟩) (SS w5 b5) ?_
            try simp only [Act.put, List.setIfInBounds_toArray, List.set_cons_zero, List.set_cons_succ]
            refine takeJ (i := 2) (v := .pointer (some ⟨b, 10, none⟩)) 49 rfl rfl (by kernel_rfl) (by kernel_rfl) (by kernel_rfl) (by kernel_rfl) (fun _ _ _ h => h) (.inl ⟨by rfl, fun W hW => exec_fieldO 43 _ 2 b 0 10 rfl rfl (fun w => by kernel_rfl)⟩) (SS w5 b5) ?_
            try simp only [Act.put, List.setIfInBounds_toArray, List.set_cons_zero, List.set_cons_succ]
            refine takeJ (i := 3) (v := .slice (some ⟨g, 0, none⟩) nl c) 50 rfl rfl (by kernel_rfl) (by kernel_rfl) (by kernel_rfl) (by kernel_rfl) (fun _ _ _ h => h) (.inl ⟨by rfl, fun W hW => exec_load1 41 oneL _ rfl b 10 rfl (.slice (some ⟨g, 0, none⟩) nl c) (hW.1)⟩) (SS w5 b5) ?_
            try simp only [Act.put, List.setIfInBounds_toArray, List.set_cons_zero, List.set_cons_succ]
            refine takeJ (i := 4) (v := .int .i64 (q : Int)) 51 rfl rfl (by kernel_rfl) (by kernel_rfl) (by kernel_rfl) (by kernel_rfl) (fun _ _ _ h => h) (.inl ⟨by rfl, fun W hW => exec_move _ _ rfl rfl⟩) (SS w5 b5) ?_
            try simp only [Act.put, List.setIfInBounds_toArray, List.set_cons_zero, List.set_cons_succ]
            refine takeJ (i := 5) (v := .pointer (some ⟨s, 7, none⟩)) 52 rfl rfl (by kernel_rfl) (by kernel_rfl) (by kernel_rfl) (by kernel_rfl) (fun _ _ _ h => h) (.inl ⟨by rfl, fun W hW => exec_fieldO 27 _ 2 s 0 7 rfl rfl (fun w => by kernel_rfl)⟩) (SS w5 b5) ?_
            try simp only [Act.put, List.setIfInBounds_toArray, List.set_cons_zero, List.set_cons_succ]
            refine takeJ (i := 6) (v := .agg (a.si.vals).toArray) 53 rfl rfl (by kernel_rfl) (by kernel_rfl) (by kernel_rfl) (by kernel_rfl) (fun _ _ _ h => h) (.inl ⟨by rfl, fun W hW => exec_loadA 25 4 aggI sizI _ rfl s 7 rfl (a.si.vals) rfl (hW.2.1)⟩) (SS w5 b5) ?_
            try simp only [Act.put, List.setIfInBounds_toArray, List.set_cons_zero, List.set_cons_succ]
            refine takeJ (i := 7) (v := .pointer (some ⟨s, 1, none⟩)) 54 rfl rfl (by kernel_rfl) (by kernel_rfl) (by kernel_rfl) (by kernel_rfl) (fun _ _ _ h => h) (.inl ⟨by rfl, fun W hW => exec_fieldO 27 _ 1 s 0 1 rfl rfl (fun w => by kernel_rfl)⟩) (SS w5 b5) ?_
            try simp only [Act.put, List.setIfInBounds_toArray, List.set_cons_zero, List.set_cons_succ]
            refine takeJ (i := 8) (v := .agg (a.sm.vals).toArray) 55 rfl rfl (by kernel_rfl) (by kernel_rfl) (by kernel_rfl) (by kernel_rfl) (fun _ _ _ h => h) (.inl ⟨by rfl, fun W hW => exec_loadA 23 6 aggM sizM _ rfl s 1 rfl (a.sm.vals) rfl (hW.2.2.1)⟩) (SS w5 b5) ?_
            try simp only [Act.put, List.setIfInBounds_toArray, List.set_cons_zero, List.set_cons_succ]
            refine takeJ (i := 9) (v := .int .i64 now) 56 rfl rfl (by kernel_rfl) (by kernel_rfl) (by kernel_rfl) (by kernel_rfl) (fun _ _ _ h => h) (.inl ⟨by rfl, fun W hW => exec_move _ _ rfl rfl⟩) (SS w5 b5) ?_
            try simp only [Act.put, List.setIfInBounds_toArray, List.set_cons_zero, List.set_cons_succ]
            refine takeJ (i := 10) (v := .pointer (some ⟨b, 0, none⟩)) 57 rfl rfl (by kernel_rfl) (by kernel_rfl) (by kernel_rfl) (by kernel_rfl) (fun _ _ _ h => h) (.inl ⟨by rfl, fun W hW => exec_move _ _ rfl rfl⟩) (SS w5 b5) ?_
            try simp only [Act.put, List.setIfInBounds_toArray, List.set_cons_zero, List.set_cons_succ]
            refine takeJ (i := 11) (v := .pointer (some ⟨b, 0, none⟩)) 58 rfl rfl (by kernel_rfl) (by kernel_rfl) (by kernel_rfl) (by kernel_rfl) (fun _ _ _ h => h) (.inl ⟨by rfl, fun W hW => exec_nil _ _ rfl rfl⟩) (SS w5 b5) ?_
            try simp only [Act.put, List.setIfInBounds_toArray, List.set_cons_zero, List.set_cons_succ]
            refine takeJ (i := 12) (v := .pointer (some ⟨b, 10, none⟩)) 59 rfl rfl (by kernel_rfl) (by kernel_rfl) (by kernel_rfl) (by kernel_rfl) (fun _ _ _ h => h) (.inl ⟨by rfl, fun W hW => exec_fieldO 43 _ 2 b 0 10 rfl rfl (fun w => by kernel_rfl)⟩) (SS w5 b5) ?_
            try simp only [Act.put, List.setIfInBounds_toArray, List.set_cons_zero, List.set_cons_succ]
            refine takeJ (i := 13) (v := .slice (some ⟨g, 0, none⟩) nl c) 60 rfl rfl (by kernel_rfl) (by kernel_rfl) (by kernel_rfl) (by kernel_rfl) (fun _ _ _ h => h) (.inl ⟨by rfl, fun W hW => exec_load1 41 oneL _ rfl b 10 rfl (.slice (some ⟨g, 0, none⟩) nl c) (hW.1)⟩) (SS w5 b5) ?_
            try simp only [Act.put, List.setIfInBounds_toArray, List.set_cons_zero, List.set_cons_succ]
            refine takeJ (i := 14) (v := .int .i64 (q : Int)) 61 rfl rfl (by kernel_rfl) (by kernel_rfl) (by kernel_rfl) (by kernel_rfl) (fun _ _ _ h => h) (.inl ⟨by rfl, fun W hW => exec_move _ _ rfl rfl⟩) (SS w5 b5) ?_
            try simp only [Act.put, List.setIfInBounds_toArray, List.set_cons_zero, List.set_cons_succ]
            refine takeJ (i := 15) (v := .pointer (some ⟨g, q * 15, none⟩)) 62 rfl rfl (by kernel_rfl) (by kernel_rfl) (by kernel_rfl) (by kernel_rfl) (fun _ _ _ h => h) (.inl ⟨by rfl, fun W hW => exec_ixL _ _ g nl c q rfl rfl rfl ix⟩) (SS w5 b5) ?_
            try simp only [Act.put, List.setIfInBounds_toArray, List.set_cons_zero, List.set_cons_succ]
            refine takeJ (i := 16) (v := .pointer (some ⟨g, q * 15 + 12, none⟩)) 63 rfl rfl (by kernel_rfl) (by kernel_rfl) (by kernel_rfl) (by kernel_rfl) (fun _ _ _ h => h) (.inl ⟨by rfl, fun W hW => exec_fieldO 66 _ 4 g (q * 15) (q * 15 + 12) rfl rfl (fun w => by kernel_rfl)⟩) (SS w5 b5) ?_
            try simp only [Act.put, List.setIfInBounds_toArray, List.set_cons_zero, List.set_cons_succ]
            refine takeJ (i := 17) (v := .int .i64 x.asked) 64 rfl rfl (by kernel_rfl) (by kernel_rfl) (by kernel_rfl) (by kernel_rfl) (fun _ _ _ h => h) (.inl ⟨by rfl, fun W hW => exec_load1 3 one1 _ rfl g (q * 15 + 12) rfl (.int .i64 x.asked) (hW.2.2.2)⟩) (SS w5 b5) ?_
            try simp only [Act.put, List.setIfInBounds_toArray, List.set_cons_zero, List.set_cons_succ]
            refine takeJ (i := 18) (v := .agg (Nb.cells ⟨a.si, 2, a.sm, now, x.asked, 0, []⟩ (.slice none 0 0)).toArray) 65 rfl rfl (by kernel_rfl) (by kernel_rfl) (by kernel_rfl) (by kernel_rfl) (fun _ _ _ h => h) (.inl ⟨by rfl, fun W hW => exec_bldK _ _ _ _ a.si.a a.si.b a.si.c a.si.d a.sm.a a.sm.b a.sm.c a.sm.d a.sm.e a.sm.f now x.asked rfl rfl rfl rfl rfl (fun _ => rfl)⟩) (SS w5 b5) ?_
            try simp only [Act.put, List.setIfInBounds_toArray, List.set_cons_zero, List.set_cons_succ]
            refine takeJ (i := 19) (v := .pointer (some ⟨g, q * 15, none⟩)) 66 rfl rfl (by kernel_rfl) (by kernel_rfl) (by kernel_rfl) (by kernel_rfl) (fun _ _ _ h => h) (.inl ⟨by rfl, fun W hW => exec_ixL _ _ g nl c q rfl rfl rfl ix⟩) (SS w5 b5) ?_
            try simp only [Act.put, List.setIfInBounds_toArray, List.set_cons_zero, List.set_cons_succ]
            refine storeJ (w' := w6) 20 (by kernel_rfl) rfl rfl (by rfl) (by rw [hw6]; exact exec_storeA 66 15 sizN _ _ rfl g (q * 15) rfl _ (x.cells (V q)) rfl rfl rfl cx hfz (nb_one _ _ rfl)) ((fun e => by simp at e)) ?_
            try simp only [Act.put, List.setIfInBounds_toArray, List.set_cons_zero, List.set_cons_succ]
            refine doneJ (by kernel_rfl) ?_ _
            clear hw5 hw6 n6 cx hfz b5 sz5 SS sp sgs
            go_wp2
            go_meet
            exact FIN.out
          · have p0 : (0 : Int) < (pn : Int) := by
              have : 0 < x.pd.length := List.length_pos_iff.2 he
              have := HPN.out
              omega
            have sp0 := SZ3.out
            have bo := But.cells (s + 2) a.sm.vals 0 w3
            obtain ⟨w4, hw4⟩ : ∃ w4, w4 = w3.setCells (s + 2) 0 a.sm.vals := ⟨_, rfl⟩
            rw [← hw4] at bo
            have z4 : w4.heap.size = w3.heap.size := by rw [hw4, size_setCells]
            have H4 : Hid (CAt ρ k w4 b m i lv Lt) := H3.out.but bo (fun j e e2 => by have e2 : j = s + 2 := e2; rw [e2, RT.out] at e; have e : 0 = k := e; omega)
            have F4 : Hid (Fit ρ w4) := F3.out.below bo.size
            have CA4 : Hid (CellsAt w4 s 0 a.vals) := CA3.out.but (by omega) bo (fun e => by have e : s = s + 2 := e; omega)
            have CM4 : Hid (CellsAt w4 (s + 1) 0 zM.vals) := CM3.out.but (by omega) bo (fun e => by have e : s + 1 = s + 2 := e; omega)
            have FM4 : Hid (∀ j, w4.frozen? ⟨s + 1, j, none⟩ = false) := fun j => (bo.frozen (p := ⟨s + 1, j, none⟩) (by show s + 1 < _; omega) (fun e => by have e : s + 1 = s + 2 := e; omega)).trans (FM3.out j)
            have CT4 : Hid (CellsAt w4 (s + 2) 0 (if x.pd = [] then zM else a.sm).vals) := by rw [hw4, if_neg he]; exact CT3.out.stored rfl
            have SZ4 : Hid (s + 3 ≤ w4.heap.size) := by unfold Hid; omega
            have M4 : Hid (But (fun j => (ρ j).1 = k) W w4) := (But.of_below HB3.out).trans' bo (fun j hj e => by have e : j = s + 2 := e; have := HS.out; omega)
            have C14b : Hid (w4.cell? ⟨g, q * 15 + 14, none⟩ = some (.slice va pn vc)) := (bo.cell (p := ⟨g, q * 15 + 14, none⟩) (by have := HG3.out; show g < _; omega) (fun e => by have e : g = s + 2 := e; have := HSG.out; omega)).trans C14.out
            have HG3 : Hid (g < w4.heap.size) := by have := HG3.out; unfold Hid; omega
            have C14 := C14b
            have CSM := hide (ar_parts CA3.out).1
            have hw4' := hw4.symm
            clear hr hf hx hxi hR0 hP0 hg0 hro hc0 cx0 hrow0 hnil0 hV0 hpn hnl hlv hgs he hw4 bo z4 sp0 C14b e9
            go_wp2_with (first | refine wpList_loadA rfl 23 6 aggM sizM _ rfl s 1 rfl a.sm.vals rfl CSM.out ?_ | refine wpList_storeA rfl 23 6 sizM _ _ rfl (s + 2) 0 rfl a.sm.vals zM.vals rfl rfl rfl CT3.out FT3.out (m6_one _) (fun _ => ?_))
            try simp only [Act.put]
            try rw [hw4']
            clear xl x14 zq p0 hw4' CSM
            obtain ⟨w5, hw5⟩ : ∃ w5, w5 = w4.drew := ⟨_, rfl⟩
            have b5 : Below w4.heap.size w4 w5 := by rw [hw5]; exact (Below.refl _ w4).drew
            have sz5 : w5.heap.size = w4.heap.size := by rw [hw5]; rfl
            have H5 := H4.out.later b5
            obtain ⟨V, hR3, hP3⟩ := H5.row.parts
            rw [HLV.out] at hR3
            obtain ⟨g', eg, hg3, _, hfz, hcs⟩ := hR3.at (by omega)
            cases eg
            have cx := hcs q hql
            rw [nbc_at hq] at cx
            obtain ⟨hrow, hnil⟩ := hP3 q t x hq
            have eV : V q = .slice va x.pd.length vc := by
              have c1 := cx 14 (V q) rfl
              have c2 : w5.cell? ⟨g, q * 15 + 14, none⟩ = some (.slice va x.pd.length vc) := by rw [← HPN.out]; exact (b5.cell (p := ⟨g, q * 15 + 14, none⟩) (by have := HG3.out; show g < _; omega)).trans C14.out
              exact Option.some.inj (c1.symm.trans c2)
            have xi : x.ip = a.si := HXI.out
            obtain ⟨w6, hw6⟩ : ∃ w6, w6 = w5.setCells g (q * 15) (Nb.cells ⟨a.si, 2, a.sm, now, x.asked, 0, []⟩ (.slice none 0 0)) := ⟨_, rfl⟩
            have n6 : Near w5 w6 g (q * 15) := by
              rw [hw6]
              have := (Near.refl w5 g (q * 15)).cells 0 (Nb.cells ⟨a.si, 2, a.sm, now, x.asked, 0, []⟩ (.slice none 0 0)) (by rw [Nb.cells_len]; omega) (fun j hj => by rw [Nat.add_zero]; exact cx.is j (by rw [Nb.cells_len] at hj ⊢; exact hj))
              rw [Nat.add_zero] at this
              exact this
            have p6 : CellsAt w6 g (q * 15) (Nb.cells { x with mac := a.sm, st := 2, since := now, tries := 0, pd := [] } (.slice none 0 0)) := by
              rw [hw6]
              have : (Nb.cells { x with mac := a.sm, st := 2, since := now, tries := 0, pd := [] } (.slice none 0 0)) = (Nb.cells ⟨a.si, 2, a.sm, now, x.asked, 0, []⟩ (.slice none 0 0)) := by rw [← xi]
              rw [this]
              exact cx.stored rfl
            obtain ⟨ρ', hρ'⟩ : ∃ ρ' : Nat → Role, ∀ j, ρ' j = if ρ j = (k, 2, t) then (0, 0, 0) else ρ j := ⟨_, fun _ => rfl⟩
            have h6 : CAt ρ' k w6 b m i lv (Lt.set q (t, { x with mac := a.sm, st := 2, since := now, tries := 0, pd := [] })) := H5.turn hq HLV.out (But.refl _ _) n6 p6 (fun j _ e => by rw [hρ', if_neg e]) (RowN.nil _ _) (fun _ => rfl)
            have hrg := HRG.out
            have z6 := n6.but.size
            have sp := SZ4.out
            have F5 := F4.out.below b5.size
            have rN := hrow.but (W' := w6) n6.but (fun j e e2 => by have e2 : j = g := e2; rw [e2, hrg] at e; simp at e)
            have sgs := HSG.out
            have FIN : Hid (RMid ρ k W b m i a r s (.slice va pn vc) w6) := by
              unfold Hid
              rw [ER.out]
              refine ⟨ρ', ⟨_, _, _, rfl⟩, ⟨_, _, List.map_set, h6⟩, fun j hj => ?_, ⟨fun j hj hn => ?_, ?_⟩, ?_, (CA4.out.later (by omega) b5).but (by omega) n6.but (fun e => by have e : s = g := e; omega), (CM4.out.later (by omega) b5).but (by omega) n6.but (fun e => by have e : s + 1 = g := e; omega), fun j => (n6.but.frozen (p := ⟨s + 1, j, none⟩) (by show s + 1 < _; omega) (fun e => by have e : s + 1 = g := e; omega)).trans ((b5.frozen (p := ⟨s + 1, j, none⟩) (by show s + 1 < _; omega)).trans (FM4.out j)), ?_, by omega, ?_⟩
              · rw [hρ', if_neg (by rw [F5 j (by omega)]; simp)]; exact F5 j (by omega)
              · rw [hρ', if_neg (fun e => hn (by rw [e]))]
              · exact (M4.out.trans' (But.of_below (K := fun _ => False) b5) (fun _ _ e => e.elim)).trans' n6.but (fun j _ e => by have e : j = g := e; rw [e, hrg])
              · rw [HPN.out, ← eV]
                refine rN.own (fun j _ e => ⟨⟨by rw [hρ', if_pos e], .inr (by rw [e])⟩, fun e2 => ?_⟩)
                rw [e2, RS.out.2] at e
                simp at e
              · rw [hρ', if_neg (by rw [RS.out.2]; simp)]; exact RS.out.2
              · exact (CT4.out.later (by omega) b5).but (by omega) n6.but (fun e => by have e : s + 2 = g := e; omega)
            have SS : ∀ W', Below w4.heap.size w4 W' → W'.cell? ⟨b, 10, none⟩ = some (.slice (some ⟨g, 0, none⟩) nl c) ∧ CellsAt W' s 7 a.si.vals ∧ CellsAt W' s 1 a.sm.vals ∧ W'.cell? ⟨g, q * 15 + 12, none⟩ = some (.int .i64 x.asked) := fun W' hb => by
              have hb5 : W'.cell? ⟨g, q * 15 + 12, none⟩ = w4.cell? ⟨g, q * 15 + 12, none⟩ := hb.cell (p := ⟨g, q * 15 + 12, none⟩) (by have := HG3.out; show g < _; omega)
              have hb6 : w5.cell? ⟨g, q * 15 + 12, none⟩ = w4.cell? ⟨g, q * 15 + 12, none⟩ := b5.cell (p := ⟨g, q * 15 + 12, none⟩) (by have := HG3.out; show g < _; omega)
              refine ⟨?_, (ar_parts (CA4.out.later (by omega) hb)).2.1, (ar_parts (CA4.out.later (by omega) hb)).1, by rw [hb5, ← hb6]; exact cx 12 _ rfl⟩
              have := (hb.cell (p := ⟨b, 10, none⟩) H4.out.lt).trans H4.out.lst
              rw [HLV.out, ← HNL.out] at this
              exact this
            have ix : q < nl := by have := HNL.out; omega
            clear H5 hR3 hP3 hcs hrow hnil rN h6 p6 F5 hg3 eV z6
            refine regionJ (fun j => j != 20) (fun W' => W'.cell? ⟨b, 10, none⟩ = some (.slice (some ⟨g, 0, none⟩) nl c) ∧ CellsAt W' s 7 a.si.vals ∧ CellsAt W' s 1 a.sm.vals ∧ W'.cell? ⟨g, q * 15 + 12, none⟩ = some (.int .i64 x.asked)) (by kernel_rfl) ?_
            rw [← hw5]
            refine takeJ (i := 0) (v := .pointer (some ⟨b, 0, none⟩)) 47 rfl rfl (by kernel_rfl) (by kernel_rfl) (by kernel_rfl) (by kernel_rfl) (fun _ _ _ h => h) (.inl ⟨by rfl, fun W hW => exec_move _ _ rfl rfl⟩) (SS w5 b5) ?_
            try simp only [Act.put, List.setIfInBounds_toArray, List.set_cons_zero, List.set_cons_succ]
            refine takeJ (i := 1) (v := .pointer (some ⟨b, 0, none⟩)) 48 rfl rfl (by kernel_rfl) (by kernel_rfl) (by kernel_rfl) (by kernel_rfl) (fun _ _ _ h => h) (.inl ⟨by rfl, fun W hW => exec_nil _ _ rfl rfl⟩) (SS w5 b5) ?_
            try simp only [Act.put, List.setIfInBounds_toArray, List.set_cons_zero, List.set_cons_succ]
            refine takeJ (i := 2) (v := .pointer (some ⟨b, 10, none⟩)) 49 rfl rfl (by kernel_rfl) (by kernel_rfl) (by kernel_rfl) (by kernel_rfl) (fun _ _ _ h => h) (.inl ⟨by rfl, fun W hW => exec_fieldO 43 _ 2 b 0 10 rfl rfl (fun w => by kernel_rfl)⟩) (SS w5 b5) ?_
            try simp only [Act.put, List.setIfInBounds_toArray, List.set_cons_zero, List.set_cons_succ]
            refine takeJ (i := 3) (v := .slice (some ⟨g, 0, none⟩) nl c) 50 rfl rfl (by kernel_rfl) (by kernel_rfl) (by kernel_rfl) (by kernel_rfl) (fun _ _ _ h => h) (.inl ⟨by rfl, fun W hW => exec_load1 41 oneL _ rfl b 10 rfl (.slice (some ⟨g, 0, none⟩) nl c) (hW.1)⟩) (SS w5 b5) ?_
            try simp only [Act.put, List.setIfInBounds_toArray, List.set_cons_zero, List.set_cons_succ]
            refine takeJ (i := 4) (v := .int .i64 (q : Int)) 51 rfl rfl (by kernel_rfl) (by kernel_rfl) (by kernel_rfl) (by kernel_rfl) (fun _ _ _ h => h) (.inl ⟨by rfl, fun W hW => exec_move _ _ rfl rfl⟩) (SS w5 b5) ?_
            try simp only [Act.put, List.setIfInBounds_toArray, List.set_cons_zero, List.set_cons_succ]
            refine takeJ (i := 5) (v := .pointer (some ⟨s, 7, none⟩)) 52 rfl rfl (by kernel_rfl) (by kernel_rfl) (by kernel_rfl) (by kernel_rfl) (fun _ _ _ h => h) (.inl ⟨by rfl, fun W hW => exec_fieldO 27 _ 2 s 0 7 rfl rfl (fun w => by kernel_rfl)⟩) (SS w5 b5) ?_
            try simp only [Act.put, List.setIfInBounds_toArray, List.set_cons_zero, List.set_cons_succ]
            refine takeJ (i := 6) (v := .agg (a.si.vals).toArray) 53 rfl rfl (by kernel_rfl) (by kernel_rfl) (by kernel_rfl) (by kernel_rfl) (fun _ _ _ h => h) (.inl ⟨by rfl, fun W hW => exec_loadA 25 4 aggI sizI _ rfl s 7 rfl (a.si.vals) rfl (hW.2.1)⟩) (SS w5 b5) ?_
            try simp only [Act.put, List.setIfInBounds_toArray, List.set_cons_zero, List.set_cons_succ]
            refine takeJ (i := 7) (v := .pointer (some ⟨s, 1, none⟩)) 54 rfl rfl (by kernel_rfl) (by kernel_rfl) (by kernel_rfl) (by kernel_rfl) (fun _ _ _ h => h) (.inl ⟨by rfl, fun W hW => exec_fieldO 27 _ 1 s 0 1 rfl rfl (fun w => by kernel_rfl)⟩) (SS w5 b5) ?_
            try simp only [Act.put, List.setIfInBounds_toArray, List.set_cons_zero, List.set_cons_succ]
            refine takeJ (i := 8) (v := .agg (a.sm.vals).toArray) 55 rfl rfl (by kernel_rfl) (by kernel_rfl) (by kernel_rfl) (by kernel_rfl) (fun _ _ _ h => h) (.inl ⟨by rfl, fun W hW => exec_loadA 23 6 aggM sizM _ rfl s 1 rfl (a.sm.vals) rfl (hW.2.2.1)⟩) (SS w5 b5) ?_
            try simp only [Act.put, List.setIfInBounds_toArray, List.set_cons_zero, List.set_cons_succ]
            refine takeJ (i := 9) (v := .int .i64 now) 56 rfl rfl (by kernel_rfl) (by kernel_rfl) (by kernel_rfl) (by kernel_rfl) (fun _ _ _ h => h) (.inl ⟨by rfl, fun W hW => exec_move _ _ rfl rfl⟩) (SS w5 b5) ?_
            try simp only [Act.put, List.setIfInBounds_toArray, List.set_cons_zero, List.set_cons_succ]
            refine takeJ (i := 10) (v := .pointer (some ⟨b, 0, none⟩)) 57 rfl rfl (by kernel_rfl) (by kernel_rfl) (by kernel_rfl) (by kernel_rfl) (fun _ _ _ h => h) (.inl ⟨by rfl, fun W hW => exec_move _ _ rfl rfl⟩) (SS w5 b5) ?_
            try simp only [Act.put, List.setIfInBounds_toArray, List.set_cons_zero, List.set_cons_succ]
            refine takeJ (i := 11) (v := .pointer (some ⟨b, 0, none⟩)) 58 rfl rfl (by kernel_rfl) (by kernel_rfl) (by kernel_rfl) (by kernel_rfl) (fun _ _ _ h => h) (.inl ⟨by rfl, fun W hW => exec_nil _ _ rfl rfl⟩) (SS w5 b5) ?_
            try simp only [Act.put, List.setIfInBounds_toArray, List.set_cons_zero, List.set_cons_succ]
            refine takeJ (i := 12) (v := .pointer (some ⟨b, 10, none⟩)) 59 rfl rfl (by kernel_rfl) (by kernel_rfl) (by kernel_rfl) (by kernel_rfl) (fun _ _ _ h => h) (.inl ⟨by rfl, fun W hW => exec_fieldO 43 _ 2 b 0 10 rfl rfl (fun w => by kernel_rfl)⟩) (SS w5 b5) ?_
            try simp only [Act.put, List.setIfInBounds_toArray, List.set_cons_zero, List.set_cons_succ]
            refine takeJ (i := 13) (v := .slice (some ⟨g, 0, none⟩) nl c) 60 rfl rfl (by kernel_rfl) (by kernel_rfl) (by kernel_rfl) (by kernel_rfl) (fun _ _ _ h => h) (.inl ⟨by rfl, fun W hW => exec_load1 41 oneL _ rfl b 10 rfl (.slice (some ⟨g, 0, none⟩) nl c) (hW.1)⟩) (SS w5 b5) ?_
            try simp only [Act.put, List.setIfInBounds_toArray, List.set_cons_zero, List.set_cons_succ]
            refine takeJ (i := 14) (v := .int .i64 (q : Int)) 61 rfl rfl (by kernel_rfl) (by kernel_rfl) (by kernel_rfl) (by kernel_rfl) (fun _ _ _ h => h) (.inl ⟨by rfl, fun W hW => exec_move _ _ rfl rfl⟩) (SS w5 b5) ?_
            try simp only [Act.put, List.setIfInBounds_toArray, List.set_cons_zero, List.set_cons_succ]
            refine takeJ (i := 15) (v := .pointer (some ⟨g, q * 15, none⟩)) 62 rfl rfl (by kernel_rfl) (by kernel_rfl) (by kernel_rfl) (by kernel_rfl) (fun _ _ _ h => h) (.inl ⟨by rfl, fun W hW => exec_ixL _ _ g nl c q rfl rfl rfl ix⟩) (SS w5 b5) ?_
            try simp only [Act.put, List.setIfInBounds_toArray, List.set_cons_zero, List.set_cons_succ]
            refine takeJ (i := 16) (v := .pointer (some ⟨g, q * 15 + 12, none⟩)) 63 rfl rfl (by kernel_rfl) (by kernel_rfl) (by kernel_rfl) (by kernel_rfl) (fun _ _ _ h => h) (.inl ⟨by rfl, fun W hW => exec_fieldO 66 _ 4 g (q * 15) (q * 15 + 12) rfl rfl (fun w => by kernel_rfl)⟩) (SS w5 b5) ?_
            try simp only [Act.put, List.setIfInBounds_toArray, List.set_cons_zero, List.set_cons_succ]
            refine takeJ (i := 17) (v := .int .i64 x.asked) 64 rfl rfl (by kernel_rfl) (by kernel_rfl) (by kernel_rfl) (by kernel_rfl) (fun _ _ _ h => h) (.inl ⟨by rfl, fun W hW => exec_load1 3 one1 _ rfl g (q * 15 + 12) rfl (.int .i64 x.asked) (hW.2.2.2)⟩) (SS w5 b5) ?_
            try simp only [Act.put, List.setIfInBounds_toArray, List.set_cons_zero, List.set_cons_succ]
            refine takeJ (i := 18) (v := .agg (Nb.cells ⟨a.si, 2, a.sm, now, x.asked, 0, []⟩ (.slice none 0 0)).toArray) 65 rfl rfl (by kernel_rfl) (by kernel_rfl) (by kernel_rfl) (by kernel_rfl) (fun _ _ _ h => h) (.inl ⟨by rfl, fun W hW => exec_bldK _ _ _ _ a.si.a a.si.b a.si.c a.si.d a.sm.a a.sm.b a.sm.c a.sm.d a.sm.e a.sm.f now x.asked rfl rfl rfl rfl rfl (fun _ => rfl)⟩) (SS w5 b5) ?_
            try simp only [Act.put, List.setIfInBounds_toArray, List.set_cons_zero, List.set_cons_succ]
            refine takeJ (i := 19) (v := .pointer (some ⟨g, q * 15, none⟩)) 66 rfl rfl (by kernel_rfl) (by kernel_rfl) (by kernel_rfl) (by kernel_rfl) (fun _ _ _ h => h) (.inl ⟨by rfl, fun W hW => exec_ixL _ _ g nl c q rfl rfl rfl ix⟩) (SS w5 b5) ?_
            try simp only [Act.put, List.setIfInBounds_toArray, List.set_cons_zero, List.set_cons_succ]
            refine storeJ (w' := w6) 20 (by kernel_rfl) rfl rfl (by rfl) (by rw [hw6]; exact exec_storeA 66 15 sizN _ _ rfl g (q * 15) rfl _ (x.cells (V q)) rfl rfl rfl cx hfz (nb_one _ _ rfl)) ((fun e => by simp at e)) ?_
            try simp only [Act.put, List.setIfInBounds_toArray, List.set_cons_zero, List.set_cons_succ]
            refine doneJ (by kernel_rfl) ?_ _
            clear hw5 hw6 n6 cx hfz b5 sz5 SS sp sgs
            go_wp2
            go_meet
            exact FIN.out
        | none =>
          have ea : ai = -1 := by rw [HAI.out]; unfold atI; rw [hf]
          subst ea
          obtain ⟨fh, hfh⟩ : ∃ fh, eqI a.di i = fh := ⟨_, rfl⟩
          obtain ⟨la0, lc0, hlv⟩ : ∃ la0 lc0, lv = .slice la0 Lt.length lc0 := by
            obtain ⟨a0, c0, e0, _⟩ := H3.out.row
            exact ⟨a0, c0, e0⟩
          obtain ⟨n, hn⟩ : ∃ n, n = Lt.length := ⟨_, rfl⟩
          have S12 : CellsAt w3.drew s 17 a.di.vals ∧ CellsAt w3.drew b 6 i.vals ∧ w3.drew.cell? ⟨b, 10, none⟩ = some (.slice la0 n lc0) := ⟨(ar_parts CA3.out).2.2.2, (CellsAt.append.1 H3.out.host).2, by rw [hn, ← hlv]; exact H3.out.lst⟩
          have HN := hide hn
          have HLV := hide hlv
          have bdr : Below w3.heap.size w3 w3.drew := (Below.refl _ w3).drew
          have H3d := hide (H3.out.later bdr)
          have F3d := hide (F3.out.below bdr.size)
          have HB3d : Hid (Below W.heap.size W w3.drew) := HB3.out.trans (bdr.mono HB3.out.size)
          have HMd : Hid (r.L = Lt.map Prod.snd → r.may = [] → r.mac = zM → RMid ρ k W b m i a r s (.slice none 0 0) w3.drew) := fun e1 e2 e3 => by
            refine ⟨ρ, ⟨_, _, _, rfl⟩, by rw [e1]; exact ⟨_, _, rfl, H3d.out⟩, F3d.out, Mv.below HB3d.out, by rw [e2]; exact RowN.nil _ _, CA3.out, CM3.out, FM3.out, RS.out.2, SZ3.out, by rw [e3]; exact CT3.out⟩
          clear bdr hn hlv
          go_wp2_with fail
          by_cases hadd : fh = true ∧ Lt.length < 8
          · obtain ⟨rfl, h8⟩ := hadd
            have ER : Hid (r = ⟨!a.ans && eqI a.di i, [], zM, Lt.map Prod.snd ++ [⟨a.si, 2, a.sm, now, now, 0, []⟩]⟩) := by
              unfold Hid
              rw [hr]
              unfold hd
              rw [if_neg NH.out, hf]
              simp only
              rw [if_pos ⟨hfh, by simpa using h8⟩]
            have n8 : (n : Int) < 8 := by have := HN.out; omega
            refine region_out (fun W' => CellsAt W' s 17 a.di.vals ∧ CellsAt W' b 6 i.vals ∧ W'.cell? ⟨b, 10, none⟩ = some (.slice la0 n lc0)) (by kernel_rfl) ?_
            refine takeD (i := 0) (v := .pointer (some ⟨s, 17, none⟩)) 67 rfl rfl (by kernel_rfl) (by kernel_rfl) (by kernel_rfl) (fun _ _ _ h => h) (.inl ⟨by rfl, fun W hW => exec_fieldO 27 _ 4 s 0 17 rfl rfl (fun w => by kernel_rfl)⟩) (S12) ?_
            try simp only [Act.put, List.setIfInBounds_toArray, List.set_cons_zero, List.set_cons_succ]
            refine takeD (i := 1) (v := .agg (a.di.vals).toArray) 68 rfl rfl (by kernel_rfl) (by kernel_rfl) (by kernel_rfl) (fun _ _ _ h => h) (.inl ⟨by rfl, fun W hW => exec_loadA 25 4 aggI sizI _ rfl s 17 rfl (a.di.vals) rfl (hW.1)⟩) (S12) ?_
            try simp only [Act.put, List.setIfInBounds_toArray, List.set_cons_zero, List.set_cons_succ]
            refine takeD (i := 2) (v := .pointer (some ⟨b, 0, none⟩)) 69 rfl rfl (by kernel_rfl) (by kernel_rfl) (by kernel_rfl) (fun _ _ _ h => h) (.inl ⟨by rfl, fun W hW => exec_move _ _ rfl rfl⟩) (S12) ?_
            try simp only [Act.put, List.setIfInBounds_toArray, List.set_cons_zero, List.set_cons_succ]
            refine takeD (i := 3) (v := .pointer (some ⟨b, 0, none⟩)) 70 rfl rfl (by kernel_rfl) (by kernel_rfl) (by kernel_rfl) (fun _ _ _ h => h) (.inl ⟨by rfl, fun W hW => exec_nil _ _ rfl rfl⟩) (S12) ?_
            try simp only [Act.put, List.setIfInBounds_toArray, List.set_cons_zero, List.set_cons_succ]
            refine takeD (i := 4) (v := .pointer (some ⟨b, 6, none⟩)) 71 rfl rfl (by kernel_rfl) (by kernel_rfl) (by kernel_rfl) (fun _ _ _ h => h) (.inl ⟨by rfl, fun W hW => exec_fieldO 43 _ 1 b 0 6 rfl rfl (fun w => by kernel_rfl)⟩) (S12) ?_
            try simp only [Act.put, List.setIfInBounds_toArray, List.set_cons_zero, List.set_cons_succ]
            refine takeD (i := 5) (v := .agg (i.vals).toArray) 72 rfl rfl (by kernel_rfl) (by kernel_rfl) (by kernel_rfl) (fun _ _ _ h => h) (.inl ⟨by rfl, fun W hW => exec_loadA 25 4 aggI sizI _ rfl b 6 rfl (i.vals) rfl (hW.2.1)⟩) (S12) ?_
            try simp only [Act.put, List.setIfInBounds_toArray, List.set_cons_zero, List.set_cons_succ]
            refine takeD (i := 6) (v := .bool true) 73 rfl rfl (by kernel_rfl) (by kernel_rfl) (by kernel_rfl) (fun _ _ _ h => h) (.inl ⟨by rfl, fun W hW => exec_eqI _ _ _ a.di i _ rfl rfl rfl hfh⟩) (S12) ?_
            try simp only [Act.put, List.setIfInBounds_toArray, List.set_cons_zero, List.set_cons_succ]
            refine takeD (i := 7) (v := .bool true) 74 rfl rfl (by kernel_rfl) (by kernel_rfl) (by kernel_rfl) (fun _ _ _ h => h) (.inl ⟨by rfl, fun W hW => exec_move _ _ rfl rfl⟩) (S12) ?_
            try simp only [Act.put, List.setIfInBounds_toArray, List.set_cons_zero, List.set_cons_succ]
            refine takeD (i := 8) (v := .pointer (some ⟨b, 0, none⟩)) 75 rfl rfl (by kernel_rfl) (by kernel_rfl) (by kernel_rfl) (fun _ _ _ h => h) (.inl ⟨by rfl, fun W hW => exec_move _ _ rfl rfl⟩) (S12) ?_
            try simp only [Act.put, List.setIfInBounds_toArray, List.set_cons_zero, List.set_cons_succ]
            refine takeD (i := 9) (v := .pointer (some ⟨b, 0, none⟩)) 76 rfl rfl (by kernel_rfl) (by kernel_rfl) (by kernel_rfl) (fun _ _ _ h => h) (.inl ⟨by rfl, fun W hW => exec_nil _ _ rfl rfl⟩) (S12) ?_
            try simp only [Act.put, List.setIfInBounds_toArray, List.set_cons_zero, List.set_cons_succ]
            refine takeD (i := 10) (v := .pointer (some ⟨b, 10, none⟩)) 77 rfl rfl (by kernel_rfl) (by kernel_rfl) (by kernel_rfl) (fun _ _ _ h => h) (.inl ⟨by rfl, fun W hW => exec_fieldO 43 _ 2 b 0 10 rfl rfl (fun w => by kernel_rfl)⟩) (S12) ?_
            try simp only [Act.put, List.setIfInBounds_toArray, List.set_cons_zero, List.set_cons_succ]
            refine takeD (i := 11) (v := .slice la0 n lc0) 78 rfl rfl (by kernel_rfl) (by kernel_rfl) (by kernel_rfl) (fun _ _ _ h => h) (.inl ⟨by rfl, fun W hW => exec_load1 41 oneL _ rfl b 10 rfl (.slice la0 n lc0) (hW.2.2)⟩) (S12) ?_
            try simp only [Act.put, List.setIfInBounds_toArray, List.set_cons_zero, List.set_cons_succ]
            refine takeD (i := 12) (v := .int .i64 (n : Int)) 79 rfl rfl (by kernel_rfl) (by kernel_rfl) (by kernel_rfl) (fun _ _ _ h => h) (.inl ⟨by rfl, fun W hW => exec_len _ _ la0 n lc0 (by kernel_rfl) rfl rfl⟩) (S12) ?_
            try simp only [Act.put, List.setIfInBounds_toArray, List.set_cons_zero, List.set_cons_succ]
            refine takeD (i := 13) (v := .bool true) 80 rfl rfl (by kernel_rfl) (by kernel_rfl) (by kernel_rfl) (fun _ _ _ h => h) (.inl ⟨by rfl, fun W hW => exec_lti _ _ _ _ _ _ rfl rfl rfl (decide_eq_true n8)⟩) (S12) ?_
            try simp only [Act.put, List.setIfInBounds_toArray, List.set_cons_zero, List.set_cons_succ]
            refine takeD (i := 14) (v := .bool true) 81 rfl rfl (by kernel_rfl) (by kernel_rfl) (by kernel_rfl) (fun _ _ _ h => h) (.inl ⟨by rfl, fun W hW => exec_pick _ _ _ true _ rfl rfl rfl⟩) (S12) ?_
            try simp only [Act.put, List.setIfInBounds_toArray, List.set_cons_zero, List.set_cons_succ]
            refine wpAnyH_done (by kernel_rfl) ?_ _
            obtain ⟨w30, hw30⟩ : ∃ w30, w30 = w3.drew := ⟨_, rfl⟩
            have CA3d : Hid (CellsAt w30 s 0 a.vals) := by rw [hw30]; exact CA3.out
            have CM3d : Hid (CellsAt w30 (s + 1) 0 zM.vals) := by rw [hw30]; exact CM3.out
            have CT3d : Hid (CellsAt w30 (s + 2) 0 zM.vals) := by rw [hw30]; exact CT3.out
            have FM3d : Hid (∀ j, w30.frozen? ⟨s + 1, j, none⟩ = false) := by rw [hw30]; exact FM3.out
            have SZ3d : Hid (s + 3 ≤ w30.heap.size) := by rw [hw30]; exact SZ3.out
            rw [← hw30] at H3d F3d HB3d ⊢
            clear S12 HMd hr hf hfh hw30 H3 F3 HB3 CA3 CM3 CT3 FM3 FT3 SZ3 n8 h8
            obtain ⟨w3, hw3⟩ : ∃ w3, w3 = w30 := ⟨_, rfl⟩
            rw [← hw3] at H3d F3d HB3d CA3d CM3d CT3d FM3d SZ3d ⊢
            obtain ⟨H3, F3, HB3, CA3, CM3, CT3, FM3, SZ3⟩ : Hid (CAt ρ k w3 b m i lv Lt) ∧ Hid (Fit ρ w3) ∧ Hid (Below W.heap.size W w3) ∧ Hid (CellsAt w3 s 0 a.vals) ∧ Hid (CellsAt w3 (s + 1) 0 zM.vals) ∧ Hid (CellsAt w3 (s + 2) 0 zM.vals) ∧ Hid (∀ j, w3.frozen? ⟨s + 1, j, none⟩ = false) ∧ Hid (s + 3 ≤ w3.heap.size) := ⟨H3d.out, F3d.out, HB3d.out, CA3d.out, CM3d.out, CT3d.out, FM3d.out, SZ3d.out⟩
            clear hw3 H3d F3d HB3d CA3d CM3d CT3d FM3d SZ3d
            go_wp2_with fail
            obtain ⟨w4, hw4⟩ : ∃ w4, w4 = w3.drew := ⟨_, rfl⟩
            have b4 : Below w3.heap.size w3 w4 := by rw [hw4]; exact (Below.refl _ w3).drew
            have sz4 : w4.heap.size = w3.heap.size := by rw [hw4]; rfl
            obtain ⟨p, hp⟩ : ∃ p, p = w4.heap.size := ⟨_, rfl⟩
            obtain ⟨w6, hw6⟩ : ∃ w6, w6 = w4.alloc (.cells (Nb.cells ⟨a.si, 2, a.sm, now, now, 0, []⟩ (.slice none 0 0)).toArray 66) := ⟨_, rfl⟩
            have sz6 : w6.heap.size = p + 1 := by rw [hw6]; simp [hp]
            have b6 : Below w3.heap.size w3 w6 := by rw [hw6]; exact b4.alloc (by omega) _
            have c6 : CellsAt w6 p 0 (Nb.cells ⟨a.si, 2, a.sm, now, now, 0, []⟩ (.slice none 0 0)) := by rw [hw6, hp]; exact CellsAt.new w4 _ 66
            obtain ⟨a7, c7, w7, hrun, b7, l7, f7, ρ', t, h7, F7, M7, kp⟩ := H3.out.add F3.out (by omega) ⟨a.si, 2, a.sm, now, now, 0, []⟩ (.slice none 0 0) b6 p p c6 (RowN.nil _ _) (fun _ => rfl) (by omega) (by omega)
            rw [← HN.out] at hrun h7 M7
            obtain ⟨w8, hw8⟩ : ∃ w8, w8 = w7.setCell ⟨b, 10, none⟩ (.slice a7 (n + 1) c7) := ⟨_, rfl⟩
            rw [← hw8] at h7 M7
            have sz8 : w8.heap.size = w7.heap.size := by rw [hw8]; simp
            have sp := SZ3.out
            have ks := RS.out.1
            have kt := RS.out.2
            have S3 : ∀ W', Below w3.heap.size w3 W' → W'.cell? ⟨b, 10, none⟩ = some lv ∧ CellsAt W' s 7 a.si.vals ∧ CellsAt W' s 1 a.sm.vals := fun W' hb => ⟨(hb.cell (p := ⟨b, 10, none⟩) H3.out.lt).trans H3.out.lst, (ar_parts (CA3.out.later (by omega) hb)).2.1, (ar_parts (CA3.out.later (by omega) hb)).1⟩
            have nk : ∀ j, ρ j = (0, 0, 0) → ¬ ((ρ j).1 = k ∧ j ≠ b) := fun j e e2 => by rw [e] at e2; have e2 := e2.1; have e2 : 0 = k := e2; omega
            have ca7 := (CA3.out.later (by omega) b6).but (by omega) b7 (nk s ks)
            have cm7 := (CM3.out.later (by omega) b6).but (by omega) b7 (nk _ kt)
            have fm7 : ∀ j, w7.frozen? ⟨s + 1, j, none⟩ = false := fun j => (b7.frozen (p := ⟨s + 1, j, none⟩) (by show s + 1 < _; omega) (nk _ kt)).trans ((b6.frozen (p := ⟨s + 1, j, none⟩) (by show s + 1 < _; omega)).trans (FM3.out j))
            have bW8 : But (Only b) w7 w8 := by rw [hw8]; exact (But.refl (Only b) w7).setCell (p := ⟨b, 10, none⟩) (.inr rfl) _
            have hbW : b < W.heap.size := h.lt
            have hsW := HS.out
            have b7s := b7.size
            have S7 : w7.cell? ⟨b, 10, none⟩ = some lv ∧ CellsAt w7 s 7 a.si.vals ∧ CellsAt w7 s 1 a.sm.vals := ⟨l7, (ar_parts ca7).2.1, (ar_parts ca7).1⟩
            have kt2 := RT.out
            have ct7 := (CT3.out.later (by omega) b6).but (by omega) b7 (nk _ kt2)
            have FIN : Hid (RMid ρ k W b m i a r s (.slice none 0 0) w8) := by
              unfold Hid
              rw [ER.out]
              refine ⟨ρ', ⟨_, _, _, rfl⟩, ⟨_, _, by rw [List.map_append]; rfl, h7⟩, F7.below (by omega), (Mv.below HB3.out).trans M7, RowN.nil _ _, ca7.but (by omega) bW8 (fun e => by have e : s = b := e; omega), cm7.but (by omega) bW8 (fun e => by have e : s + 1 = b := e; omega), fun j => (bW8.frozen (p := ⟨s + 1, j, none⟩) (by show s + 1 < _; omega) (fun e => by have e : s + 1 = b := e; omega)).trans (fm7 j), ?_, by omega, ct7.but (by omega) bW8 (fun e => by have e : s + 2 = b := e; omega)⟩
              rw [kp (s + 1) (by omega) (by omega)]
              exact kt
            refine regionJ (fun j => j != 16) (fun W' => W'.cell? ⟨b, 10, none⟩ = some lv ∧ CellsAt W' s 7 a.si.vals ∧ CellsAt W' s 1 a.sm.vals) (by kernel_rfl) ?_
            rw [← hw4]
            refine takeJ (i := 0) (v := .pointer (some ⟨b, 0, none⟩)) 82 rfl rfl (by kernel_rfl) (by kernel_rfl) (by kernel_rfl) (by kernel_rfl) (fun _ _ _ h => h) (.inl ⟨by rfl, fun W hW => exec_move _ _ rfl rfl⟩) (S3 w4 b4) ?_
            try simp only [Act.put, List.setIfInBounds_toArray, List.set_cons_zero, List.set_cons_succ]
            refine takeJ (i := 1) (v := .pointer (some ⟨b, 0, none⟩)) 83 rfl rfl (by kernel_rfl) (by kernel_rfl) (by kernel_rfl) (by kernel_rfl) (fun _ _ _ h => h) (.inl ⟨by rfl, fun W hW => exec_move _ _ rfl rfl⟩) (S3 w4 b4) ?_
            try simp only [Act.put, List.setIfInBounds_toArray, List.set_cons_zero, List.set_cons_succ]
            refine takeJ (i := 2) (v := .pointer (some ⟨b, 0, none⟩)) 84 rfl rfl (by kernel_rfl) (by kernel_rfl) (by kernel_rfl) (by kernel_rfl) (fun _ _ _ h => h) (.inl ⟨by rfl, fun W hW => exec_nil _ _ rfl rfl⟩) (S3 w4 b4) ?_
            try simp only [Act.put, List.setIfInBounds_toArray, List.set_cons_zero, List.set_cons_succ]
            refine takeJ (i := 3) (v := .pointer (some ⟨b, 10, none⟩)) 85 rfl rfl (by kernel_rfl) (by kernel_rfl) (by kernel_rfl) (by kernel_rfl) (fun _ _ _ h => h) (.inl ⟨by rfl, fun W hW => exec_fieldO 43 _ 2 b 0 10 rfl rfl (fun w => by kernel_rfl)⟩) (S3 w4 b4) ?_
            try simp only [Act.put, List.setIfInBounds_toArray, List.set_cons_zero, List.set_cons_succ]
            refine takeJ (i := 4) (v := lv) 86 rfl rfl (by kernel_rfl) (by kernel_rfl) (by kernel_rfl) (by kernel_rfl) (fun _ _ _ h => h) (.inl ⟨by rfl, fun W hW => exec_load1 41 oneL _ rfl b 10 rfl (lv) (hW.1)⟩) (S3 w4 b4) ?_
            try simp only [Act.put, List.setIfInBounds_toArray, List.set_cons_zero, List.set_cons_succ]
            refine takeJ (i := 5) (v := .pointer (some ⟨s, 7, none⟩)) 87 rfl rfl (by kernel_rfl) (by kernel_rfl) (by kernel_rfl) (by kernel_rfl) (fun _ _ _ h => h) (.inl ⟨by rfl, fun W hW => exec_fieldO 27 _ 2 s 0 7 rfl rfl (fun w => by kernel_rfl)⟩) (S3 w4 b4) ?_
            try simp only [Act.put, List.setIfInBounds_toArray, List.set_cons_zero, List.set_cons_succ]
            refine takeJ (i := 6) (v := .agg (a.si.vals).toArray) 88 rfl rfl (by kernel_rfl) (by kernel_rfl) (by kernel_rfl) (by kernel_rfl) (fun _ _ _ h => h) (.inl ⟨by rfl, fun W hW => exec_loadA 25 4 aggI sizI _ rfl s 7 rfl (a.si.vals) rfl (hW.2.1)⟩) (S3 w4 b4) ?_
            try simp only [Act.put, List.setIfInBounds_toArray, List.set_cons_zero, List.set_cons_succ]
            refine takeJ (i := 7) (v := .pointer (some ⟨s, 1, none⟩)) 89 rfl rfl (by kernel_rfl) (by kernel_rfl) (by kernel_rfl) (by kernel_rfl) (fun _ _ _ h => h) (.inl ⟨by rfl, fun W hW => exec_fieldO 27 _ 1 s 0 1 rfl rfl (fun w => by kernel_rfl)⟩) (S3 w4 b4) ?_
            try simp only [Act.put, List.setIfInBounds_toArray, List.set_cons_zero, List.set_cons_succ]
            refine takeJ (i := 8) (v := .agg (a.sm.vals).toArray) 90 rfl rfl (by kernel_rfl) (by kernel_rfl) (by kernel_rfl) (by kernel_rfl) (fun _ _ _ h => h) (.inl ⟨by rfl, fun W hW => exec_loadA 23 6 aggM sizM _ rfl s 1 rfl (a.sm.vals) rfl (hW.2.2)⟩) (S3 w4 b4) ?_
            try simp only [Act.put, List.setIfInBounds_toArray, List.set_cons_zero, List.set_cons_succ]
            refine takeJ (i := 9) (v := .int .i64 now) 91 rfl rfl (by kernel_rfl) (by kernel_rfl) (by kernel_rfl) (by kernel_rfl) (fun _ _ _ h => h) (.inl ⟨by rfl, fun W hW => exec_move _ _ rfl rfl⟩) (S3 w4 b4) ?_
            try simp only [Act.put, List.setIfInBounds_toArray, List.set_cons_zero, List.set_cons_succ]
            refine takeJ (i := 10) (v := .int .i64 now) 92 rfl rfl (by kernel_rfl) (by kernel_rfl) (by kernel_rfl) (by kernel_rfl) (fun _ _ _ h => h) (.inl ⟨by rfl, fun W hW => exec_move _ _ rfl rfl⟩) (S3 w4 b4) ?_
            try simp only [Act.put, List.setIfInBounds_toArray, List.set_cons_zero, List.set_cons_succ]
            refine takeJ (i := 11) (v := .agg (Nb.cells ⟨a.si, 2, a.sm, now, now, 0, []⟩ (.slice none 0 0)).toArray) 93 rfl rfl (by kernel_rfl) (by kernel_rfl) (by kernel_rfl) (by kernel_rfl) (fun _ _ _ h => h) (.inl ⟨by rfl, fun W hW => exec_bldK _ _ _ _ a.si.a a.si.b a.si.c a.si.d a.sm.a a.sm.b a.sm.c a.sm.d a.sm.e a.sm.f now now rfl rfl rfl rfl rfl (fun _ => rfl)⟩) (S3 w4 b4) ?_
            try simp only [Act.put, List.setIfInBounds_toArray, List.set_cons_zero, List.set_cons_succ]
            refine nextJ (w' := w6) 12 94 (.slice (some ⟨p, 0, none⟩) 1 1) (by kernel_rfl) rfl rfl (by rfl) (by rw [hw6, hp]; exact exec_bsN _ _ _ _ _ rfl rfl) (S3 w6 b6) ?_
            try simp only [Act.put, List.setIfInBounds_toArray, List.set_cons_zero, List.set_cons_succ]
            refine nextJ (w' := w7) 13 95 (.slice a7 (n + 1) c7) (by kernel_rfl) rfl rfl (by rfl) (exec_app _ _ 41 41 rfl lv (.slice (some ⟨p, 0, none⟩) 1 1) rfl rfl 41 rfl hrun) (S7) ?_
            try simp only [Act.put, List.setIfInBounds_toArray, List.set_cons_zero, List.set_cons_succ]
            refine nextJ (w' := w7) 14 96 (.pointer (some ⟨b, 0, none⟩)) (by kernel_rfl) rfl rfl (by rfl) (exec_nil _ _ rfl rfl) (S7) ?_
            try simp only [Act.put, List.setIfInBounds_toArray, List.set_cons_zero, List.set_cons_succ]
            refine nextJ (w' := w7) 15 97 (.pointer (some ⟨b, 10, none⟩)) (by kernel_rfl) rfl rfl (by rfl) (exec_fieldO 43 _ 2 b 0 10 rfl rfl (fun w => by kernel_rfl)) (S7) ?_
            try simp only [Act.put, List.setIfInBounds_toArray, List.set_cons_zero, List.set_cons_succ]
            refine storeJ (w' := w8) 16 (by kernel_rfl) rfl rfl (by rfl) (by rw [hw8]; exact exec_store1 41 s1L _ _ rfl b 10 rfl lv _ rfl l7 f7 rfl) ((fun e => by simp at e)) ?_
            try simp only [Act.put, List.setIfInBounds_toArray, List.set_cons_zero, List.set_cons_succ]
            refine doneJ (by kernel_rfl) ?_ _
            clear hrun b7 l7 f7 h7 F7 M7 kp c6 b6 b4 hw4 hw6 hw8 sz4 sz6 sz8 S3 ca7 cm7 fm7 bW8 hbW hsW b7s sp ks kt hp S7 nk ct7 kt2
            go_wp2
            go_meet
            exact FIN.out
          · have ER : Hid (r = ⟨!a.ans && eqI a.di i, [], zM, Lt.map Prod.snd⟩) := by
              unfold Hid
              rw [hr]
              unfold hd
              rw [if_neg NH.out, hf]
              simp only
              rw [if_neg (fun e => hadd ⟨hfh ▸ e.1, by simpa using e.2⟩)]
            have FIN : Hid (RMid ρ k W b m i a r s (.slice none 0 0) w3.drew) := HMd.out (by rw [ER.out]) (by rw [ER.out]) (by rw [ER.out])
            clear HMd hr hf
            cases fh with
            | false =>
              refine region_out (fun W' => CellsAt W' s 17 a.di.vals ∧ CellsAt W' b 6 i.vals ∧ W'.cell? ⟨b, 10, none⟩ = some (.slice la0 n lc0)) (by kernel_rfl) ?_
              refine takeD (i := 0) (v := .pointer (some ⟨s, 17, none⟩)) 67 rfl rfl (by kernel_rfl) (by kernel_rfl) (by kernel_rfl) (fun _ _ _ h => h) (.inl ⟨by rfl, fun W hW => exec_fieldO 27 _ 4 s 0 17 rfl rfl (fun w => by kernel_rfl)⟩) (S12) ?_
              try simp only [Act.put, List.setIfInBounds_toArray, List.set_cons_zero, List.set_cons_succ]
              refine takeD (i := 1) (v := .agg (a.di.vals).toArray) 68 rfl rfl (by kernel_rfl) (by kernel_rfl) (by kernel_rfl) (fun _ _ _ h => h) (.inl ⟨by rfl, fun W hW => exec_loadA 25 4 aggI sizI _ rfl s 17 rfl (a.di.vals) rfl (hW.1)⟩) (S12) ?_
              try simp only [Act.put, List.setIfInBounds_toArray, List.set_cons_zero, List.set_cons_succ]
              refine takeD (i := 2) (v := .pointer (some ⟨b, 0, none⟩)) 69 rfl rfl (by kernel_rfl) (by kernel_rfl) (by kernel_rfl) (fun _ _ _ h => h) (.inl ⟨by rfl, fun W hW => exec_move _ _ rfl rfl⟩) (S12) ?_
              try simp only [Act.put, List.setIfInBounds_toArray, List.set_cons_zero, List.set_cons_succ]
              refine takeD (i := 3) (v := .pointer (some ⟨b, 0, none⟩)) 70 rfl rfl (by kernel_rfl) (by kernel_rfl) (by kernel_rfl) (fun _ _ _ h => h) (.inl ⟨by rfl, fun W hW => exec_nil _ _ rfl rfl⟩) (S12) ?_
              try simp only [Act.put, List.setIfInBounds_toArray, List.set_cons_zero, List.set_cons_succ]
              refine takeD (i := 4) (v := .pointer (some ⟨b, 6, none⟩)) 71 rfl rfl (by kernel_rfl) (by kernel_rfl) (by kernel_rfl) (fun _ _ _ h => h) (.inl ⟨by rfl, fun W hW => exec_fieldO 43 _ 1 b 0 6 rfl rfl (fun w => by kernel_rfl)⟩) (S12) ?_
              try simp only [Act.put, List.setIfInBounds_toArray, List.set_cons_zero, List.set_cons_succ]
              refine takeD (i := 5) (v := .agg (i.vals).toArray) 72 rfl rfl (by kernel_rfl) (by kernel_rfl) (by kernel_rfl) (fun _ _ _ h => h) (.inl ⟨by rfl, fun W hW => exec_loadA 25 4 aggI sizI _ rfl b 6 rfl (i.vals) rfl (hW.2.1)⟩) (S12) ?_
              try simp only [Act.put, List.setIfInBounds_toArray, List.set_cons_zero, List.set_cons_succ]
              refine takeD (i := 6) (v := .bool false) 73 rfl rfl (by kernel_rfl) (by kernel_rfl) (by kernel_rfl) (fun _ _ _ h => h) (.inl ⟨by rfl, fun W hW => exec_eqI _ _ _ a.di i _ rfl rfl rfl hfh⟩) (S12) ?_
              try simp only [Act.put, List.setIfInBounds_toArray, List.set_cons_zero, List.set_cons_succ]
              refine takeD (i := 7) (v := .bool false) 74 rfl rfl (by kernel_rfl) (by kernel_rfl) (by kernel_rfl) (fun _ _ _ h => h) (.inl ⟨by rfl, fun W hW => exec_move _ _ rfl rfl⟩) (S12) ?_
              try simp only [Act.put, List.setIfInBounds_toArray, List.set_cons_zero, List.set_cons_succ]
              refine takeD (i := 8) (v := undef) 75 rfl rfl (by kernel_rfl) (by kernel_rfl) (by kernel_rfl) (fun _ _ _ h => h) (.inr ⟨by rfl, rfl⟩) (S12) ?_
              try simp only [Act.put, List.setIfInBounds_toArray, List.set_cons_zero, List.set_cons_succ]
              refine takeD (i := 9) (v := undef) 76 rfl rfl (by kernel_rfl) (by kernel_rfl) (by kernel_rfl) (fun _ _ _ h => h) (.inr ⟨by rfl, rfl⟩) (S12) ?_
              try simp only [Act.put, List.setIfInBounds_toArray, List.set_cons_zero, List.set_cons_succ]
              refine takeD (i := 10) (v := undef) 77 rfl rfl (by kernel_rfl) (by kernel_rfl) (by kernel_rfl) (fun _ _ _ h => h) (.inr ⟨by rfl, rfl⟩) (S12) ?_
              try simp only [Act.put, List.setIfInBounds_toArray, List.set_cons_zero, List.set_cons_succ]
              refine takeD (i := 11) (v := undef) 78 rfl rfl (by kernel_rfl) (by kernel_rfl) (by kernel_rfl) (fun _ _ _ h => h) (.inr ⟨by rfl, rfl⟩) (S12) ?_
              try simp only [Act.put, List.setIfInBounds_toArray, List.set_cons_zero, List.set_cons_succ]
              refine takeD (i := 12) (v := undef) 79 rfl rfl (by kernel_rfl) (by kernel_rfl) (by kernel_rfl) (fun _ _ _ h => h) (.inr ⟨by rfl, rfl⟩) (S12) ?_
              try simp only [Act.put, List.setIfInBounds_toArray, List.set_cons_zero, List.set_cons_succ]
              refine takeD (i := 13) (v := undef) 80 rfl rfl (by kernel_rfl) (by kernel_rfl) (by kernel_rfl) (fun _ _ _ h => h) (.inr ⟨by rfl, rfl⟩) (S12) ?_
              try simp only [Act.put, List.setIfInBounds_toArray, List.set_cons_zero, List.set_cons_succ]
              refine takeD (i := 14) (v := .bool false) 81 rfl rfl (by kernel_rfl) (by kernel_rfl) (by kernel_rfl) (fun _ _ _ h => h) (.inl ⟨by rfl, fun W hW => exec_pick _ _ _ false _ rfl rfl rfl⟩) (S12) ?_
              try simp only [Act.put, List.setIfInBounds_toArray, List.set_cons_zero, List.set_cons_succ]
              refine wpAnyH_done (by kernel_rfl) ?_ _
              clear S12 hfh hadd
              go_wp2
              go_meet
              exact FIN.out
            | true =>
              have n8 : ¬ (n : Int) < 8 := fun e => hadd ⟨rfl, by have := HN.out; omega⟩
              refine region_out (fun W' => CellsAt W' s 17 a.di.vals ∧ CellsAt W' b 6 i.vals ∧ W'.cell? ⟨b, 10, none⟩ = some (.slice la0 n lc0)) (by kernel_rfl) ?_
              refine takeD (i := 0) (v := .pointer (some ⟨s, 17, none⟩)) 67 rfl rfl (by kernel_rfl) (by kernel_rfl) (by kernel_rfl) (fun _ _ _ h => h) (.inl ⟨by rfl, fun W hW => exec_fieldO 27 _ 4 s 0 17 rfl rfl (fun w => by kernel_rfl)⟩) (S12) ?_
              try simp only [Act.put, List.setIfInBounds_toArray, List.set_cons_zero, List.set_cons_succ]
              refine takeD (i := 1) (v := .agg (a.di.vals).toArray) 68 rfl rfl (by kernel_rfl) (by kernel_rfl) (by kernel_rfl) (fun _ _ _ h => h) (.inl ⟨by rfl, fun W hW => exec_loadA 25 4 aggI sizI _ rfl s 17 rfl (a.di.vals) rfl (hW.1)⟩) (S12) ?_
              try simp only [Act.put, List.setIfInBounds_toArray, List.set_cons_zero, List.set_cons_succ]
              refine takeD (i := 2) (v := .pointer (some ⟨b, 0, none⟩)) 69 rfl rfl (by kernel_rfl) (by kernel_rfl) (by kernel_rfl) (fun _ _ _ h => h) (.inl ⟨by rfl, fun W hW => exec_move _ _ rfl rfl⟩) (S12) ?_
              try simp only [Act.put, List.setIfInBounds_toArray, List.set_cons_zero, List.set_cons_succ]
              refine takeD (i := 3) (v := .pointer (some ⟨b, 0, none⟩)) 70 rfl rfl (by kernel_rfl) (by kernel_rfl) (by kernel_rfl) (fun _ _ _ h => h) (.inl ⟨by rfl, fun W hW => exec_nil _ _ rfl rfl⟩) (S12) ?_
              try simp only [Act.put, List.setIfInBounds_toArray, List.set_cons_zero, List.set_cons_succ]
              refine takeD (i := 4) (v := .pointer (some ⟨b, 6, none⟩)) 71 rfl rfl (by kernel_rfl) (by kernel_rfl) (by kernel_rfl) (fun _ _ _ h => h) (.inl ⟨by rfl, fun W hW => exec_fieldO 43 _ 1 b 0 6 rfl rfl (fun w => by kernel_rfl)⟩) (S12) ?_
              try simp only [Act.put, List.setIfInBounds_toArray, List.set_cons_zero, List.set_cons_succ]
              refine takeD (i := 5) (v := .agg (i.vals).toArray) 72 rfl rfl (by kernel_rfl) (by kernel_rfl) (by kernel_rfl) (fun _ _ _ h => h) (.inl ⟨by rfl, fun W hW => exec_loadA 25 4 aggI sizI _ rfl b 6 rfl (i.vals) rfl (hW.2.1)⟩) (S12) ?_
              try simp only [Act.put, List.setIfInBounds_toArray, List.set_cons_zero, List.set_cons_succ]
              refine takeD (i := 6) (v := .bool true) 73 rfl rfl (by kernel_rfl) (by kernel_rfl) (by kernel_rfl) (fun _ _ _ h => h) (.inl ⟨by rfl, fun W hW => exec_eqI _ _ _ a.di i _ rfl rfl rfl hfh⟩) (S12) ?_
              try simp only [Act.put, List.setIfInBounds_toArray, List.set_cons_zero, List.set_cons_succ]
              refine takeD (i := 7) (v := .bool true) 74 rfl rfl (by kernel_rfl) (by kernel_rfl) (by kernel_rfl) (fun _ _ _ h => h) (.inl ⟨by rfl, fun W hW => exec_move _ _ rfl rfl⟩) (S12) ?_
              try simp only [Act.put, List.setIfInBounds_toArray, List.set_cons_zero, List.set_cons_succ]
              refine takeD (i := 8) (v := .pointer (some ⟨b, 0, none⟩)) 75 rfl rfl (by kernel_rfl) (by kernel_rfl) (by kernel_rfl) (fun _ _ _ h => h) (.inl ⟨by rfl, fun W hW => exec_move _ _ rfl rfl⟩) (S12) ?_
              try simp only [Act.put, List.setIfInBounds_toArray, List.set_cons_zero, List.set_cons_succ]
              refine takeD (i := 9) (v := .pointer (some ⟨b, 0, none⟩)) 76 rfl rfl (by kernel_rfl) (by kernel_rfl) (by kernel_rfl) (fun _ _ _ h => h) (.inl ⟨by rfl, fun W hW => exec_nil _ _ rfl rfl⟩) (S12) ?_
              try simp only [Act.put, List.setIfInBounds_toArray, List.set_cons_zero, List.set_cons_succ]
              refine takeD (i := 10) (v := .pointer (some ⟨b, 10, none⟩)) 77 rfl rfl (by kernel_rfl) (by kernel_rfl) (by kernel_rfl) (fun _ _ _ h => h) (.inl ⟨by rfl, fun W hW => exec_fieldO 43 _ 2 b 0 10 rfl rfl (fun w => by kernel_rfl)⟩) (S12) ?_
              try simp only [Act.put, List.setIfInBounds_toArray, List.set_cons_zero, List.set_cons_succ]
              refine takeD (i := 11) (v := .slice la0 n lc0) 78 rfl rfl (by kernel_rfl) (by kernel_rfl) (by kernel_rfl) (fun _ _ _ h => h) (.inl ⟨by rfl, fun W hW => exec_load1 41 oneL _ rfl b 10 rfl (.slice la0 n lc0) (hW.2.2)⟩) (S12) ?_
              try simp only [Act.put, List.setIfInBounds_toArray, List.set_cons_zero, List.set_cons_succ]
              refine takeD (i := 12) (v := .int .i64 (n : Int)) 79 rfl rfl (by kernel_rfl) (by kernel_rfl) (by kernel_rfl) (fun _ _ _ h => h) (.inl ⟨by rfl, fun W hW => exec_len _ _ la0 n lc0 (by kernel_rfl) rfl rfl⟩) (S12) ?_
              try simp only [Act.put, List.setIfInBounds_toArray, List.set_cons_zero, List.set_cons_succ]
              refine takeD (i := 13) (v := .bool false) 80 rfl rfl (by kernel_rfl) (by kernel_rfl) (by kernel_rfl) (fun _ _ _ h => h) (.inl ⟨by rfl, fun W hW => exec_lti _ _ _ _ _ _ rfl rfl rfl (decide_eq_false n8)⟩) (S12) ?_
              try simp only [Act.put, List.setIfInBounds_toArray, List.set_cons_zero, List.set_cons_succ]
              refine takeD (i := 14) (v := .bool false) 81 rfl rfl (by kernel_rfl) (by kernel_rfl) (by kernel_rfl) (fun _ _ _ h => h) (.inl ⟨by rfl, fun W hW => exec_pick _ _ _ true _ rfl rfl rfl⟩) (S12) ?_
              try simp only [Act.put, List.setIfInBounds_toArray, List.set_cons_zero, List.set_cons_succ]
              refine wpAnyH_done (by kernel_rfl) ?_ _
              clear S12 hfh hadd n8
              go_wp2
              go_meet
              exact FIN.out
      case rest =>
        obtain ⟨ρ', ⟨x9, n9, c9, rfl⟩, HCa, HFc, HMv, HRow, HCA, HCM, HFM, HRT, HSZ, HCT⟩ := hcut.out
        obtain ⟨wm, hwm⟩ : ∃ wm, wm = wc := ⟨_, rfl⟩
        rw [← hwm] at HCa HFc HMv HRow HCA HCM HFM HSZ HCT ⊢
        have HR := hide hr
        have HD := hide (hd_facts (now := now) (L := Lt.map Prod.snd) NH.out)
        rw [← HR.out] at HD
        have EA : Hid (r.ans = (!a.ans && eqI a.di i)) := HD.out.1
        have HCa := hide HCa
        have HFc := hide HFc
        have HMv := hide HMv
        have HRow := hide HRow
        have HCA := hide HCA
        have HCM := hide HCM
        have HFM := hide HFM
        have HRT := hide HRT
        have HSZ := hide HSZ
        have HCT := hide HCT
        obtain ⟨ra, hra⟩ : ∃ ra, ra = r.ans := ⟨_, rfl⟩
        rw [← hra] at EA
        have HRA := hide hra
        have HOST : Hid (∀ W', Below wm.heap.size wm W' → CellsAt W' b 0 (m.vals ++ i.vals)) := fun W' hb => by
          obtain ⟨lv', Lt', _, hcc⟩ := HCa.out
          exact (hcc.later hb).host
        clear hwm hr hra hcut HD H3 F3 HB3 CA3 CM3 CT3 FM3 FT3 SZ3 HAI
        go_upto_region 14 with fail
        obtain ⟨wn, hwn⟩ : ∃ wn, wn = wm.drew := ⟨_, rfl⟩
        have bn : Below wm.heap.size wm wn := by rw [hwn]; exact (Below.refl _ wm).drew
        have zn : wn.heap.size = wm.heap.size := by rw [hwn]; rfl
        have sz := HSZ.out
        go_cut [109] from 98 to 108 (fun v109 wx => v109 = .bool ra ∧ wn = wx)
        case first =>
          have S0 : CellsAt wn s 0 a.vals ∧ CellsAt wn b 6 i.vals := ⟨HCA.out.later (by omega) bn, (CellsAt.append.1 (HOST.out wn bn)).2⟩
          refine region_out (fun W' => CellsAt W' s 0 a.vals ∧ CellsAt W' b 6 i.vals) (by kernel_rfl) ?_
          rw [← hwn]
          clear hwn
          cases ha : a.ans with
          | true =>
            have e : ra = false := by rw [EA.out, ha]; rfl
            subst e
            refine takeD (i := 0) (v := .pointer (some ⟨s, 0, none⟩)) 98 rfl rfl (by kernel_rfl) (by kernel_rfl) (by kernel_rfl) (fun _ _ _ h => h) (.inl ⟨by rfl, fun W hW => exec_fieldO 27 _ 0 s 0 0 rfl rfl (fun w => by kernel_rfl)⟩) (S0) ?_
            try simp only [Act.put, List.setIfInBounds_toArray, List.set_cons_zero, List.set_cons_succ]
            refine takeD (i := 1) (v := .bool true) 99 rfl rfl (by kernel_rfl) (by kernel_rfl) (by kernel_rfl) (fun _ _ _ h => h) (.inl ⟨by rfl, fun W hW => exec_load1 4 oneB _ rfl s 0 rfl (.bool true) ((by have := hW.1 0 (.bool a.ans) rfl; rw [ha] at this; exact this))⟩) (S0) ?_
            try simp only [Act.put, List.setIfInBounds_toArray, List.set_cons_zero, List.set_cons_succ]
            refine takeD (i := 2) (v := .bool false) 100 rfl rfl (by kernel_rfl) (by kernel_rfl) (by kernel_rfl) (fun _ _ _ h => h) (.inl ⟨by rfl, fun W hW => exec_not _ _ true rfl rfl⟩) (S0) ?_
            try simp only [Act.put, List.setIfInBounds_toArray, List.set_cons_zero, List.set_cons_succ]
            refine takeD (i := 3) (v := .bool false) 101 rfl rfl (by kernel_rfl) (by kernel_rfl) (by kernel_rfl) (fun _ _ _ h => h) (.inl ⟨by rfl, fun W hW => exec_move _ _ rfl rfl⟩) (S0) ?_
            try simp only [Act.put, List.setIfInBounds_toArray, List.set_cons_zero, List.set_cons_succ]
            refine takeD (i := 4) (v := undef) 102 rfl rfl (by kernel_rfl) (by kernel_rfl) (by kernel_rfl) (fun _ _ _ h => h) (.inr ⟨by rfl, rfl⟩) (S0) ?_
            try simp only [Act.put, List.setIfInBounds_toArray, List.set_cons_zero, List.set_cons_succ]
            refine takeD (i := 5) (v := undef) 103 rfl rfl (by kernel_rfl) (by kernel_rfl) (by kernel_rfl) (fun _ _ _ h => h) (.inr ⟨by rfl, rfl⟩) (S0) ?_
            try simp only [Act.put, List.setIfInBounds_toArray, List.set_cons_zero, List.set_cons_succ]
            refine takeD (i := 6) (v := undef) 104 rfl rfl (by kernel_rfl) (by kernel_rfl) (by kernel_rfl) (fun _ _ _ h => h) (.inr ⟨by rfl, rfl⟩) (S0) ?_
            try simp only [Act.put, List.setIfInBounds_toArray, List.set_cons_zero, List.set_cons_succ]
            refine takeD (i := 7) (v := undef) 105 rfl rfl (by kernel_rfl) (by kernel_rfl) (by kernel_rfl) (fun _ _ _ h => h) (.inr ⟨by rfl, rfl⟩) (S0) ?_
            try simp only [Act.put, List.setIfInBounds_toArray, List.set_cons_zero, List.set_cons_succ]
            refine takeD (i := 8) (v := undef) 106 rfl rfl (by kernel_rfl) (by kernel_rfl) (by kernel_rfl) (fun _ _ _ h => h) (.inr ⟨by rfl, rfl⟩) (S0) ?_
            try simp only [Act.put, List.setIfInBounds_toArray, List.set_cons_zero, List.set_cons_succ]
            refine takeD (i := 9) (v := undef) 107 rfl rfl (by kernel_rfl) (by kernel_rfl) (by kernel_rfl) (fun _ _ _ h => h) (.inr ⟨by rfl, rfl⟩) (S0) ?_
            try simp only [Act.put, List.setIfInBounds_toArray, List.set_cons_zero, List.set_cons_succ]
            refine takeD (i := 10) (v := undef) 108 rfl rfl (by kernel_rfl) (by kernel_rfl) (by kernel_rfl) (fun _ _ _ h => h) (.inr ⟨by rfl, rfl⟩) (S0) ?_
            try simp only [Act.put, List.setIfInBounds_toArray, List.set_cons_zero, List.set_cons_succ]
            refine takeD (i := 11) (v := .bool false) 109 rfl rfl (by kernel_rfl) (by kernel_rfl) (by kernel_rfl) (fun _ _ _ h => h) (.inl ⟨by rfl, fun W hW => exec_pick _ _ _ false _ rfl rfl rfl⟩) (S0) ?_
            try simp only [Act.put, List.setIfInBounds_toArray, List.set_cons_zero, List.set_cons_succ]
            refine wpAnyH_done (by kernel_rfl) ?_ _
            clear S0
            go_wp2
            go_meet
            exact ⟨rfl, rfl⟩
          | false =>
            have e : eqI a.di i = ra := by rw [EA.out, ha]; rfl
            refine takeD (i := 0) (v := .pointer (some ⟨s, 0, none⟩)) 98 rfl rfl (by kernel_rfl) (by kernel_rfl) (by kernel_rfl) (fun _ _ _ h => h) (.inl ⟨by rfl, fun W hW => exec_fieldO 27 _ 0 s 0 0 rfl rfl (fun w => by kernel_rfl)⟩) (S0) ?_
            try simp only [Act.put, List.setIfInBounds_toArray, List.set_cons_zero, List.set_cons_succ]
            refine takeD (i := 1) (v := .bool false) 99 rfl rfl (by kernel_rfl) (by kernel_rfl) (by kernel_rfl) (fun _ _ _ h => h) (.inl ⟨by rfl, fun W hW => exec_load1 4 oneB _ rfl s 0 rfl (.bool false) ((by have := hW.1 0 (.bool a.ans) rfl; rw [ha] at this; exact this))⟩) (S0) ?_
            try simp only [Act.put, List.setIfInBounds_toArray, List.set_cons_zero, List.set_cons_succ]
            refine takeD (i := 2) (v := .bool true) 100 rfl rfl (by kernel_rfl) (by kernel_rfl) (by kernel_rfl) (fun _ _ _ h => h) (.inl ⟨by rfl, fun W hW => exec_not _ _ false rfl rfl⟩) (S0) ?_
            try simp only [Act.put, List.setIfInBounds_toArray, List.set_cons_zero, List.set_cons_succ]
            refine takeD (i := 3) (v := .bool true) 101 rfl rfl (by kernel_rfl) (by kernel_rfl) (by kernel_rfl) (fun _ _ _ h => h) (.inl ⟨by rfl, fun W hW => exec_move _ _ rfl rfl⟩) (S0) ?_
            try simp only [Act.put, List.setIfInBounds_toArray, List.set_cons_zero, List.set_cons_succ]
            refine takeD (i := 4) (v := .pointer (some ⟨s, 17, none⟩)) 102 rfl rfl (by kernel_rfl) (by kernel_rfl) (by kernel_rfl) (fun _ _ _ h => h) (.inl ⟨by rfl, fun W hW => exec_fieldO 27 _ 4 s 0 17 rfl rfl (fun w => by kernel_rfl)⟩) (S0) ?_
            try simp only [Act.put, List.setIfInBounds_toArray, List.set_cons_zero, List.set_cons_succ]
            refine takeD (i := 5) (v := .agg (a.di.vals).toArray) 103 rfl rfl (by kernel_rfl) (by kernel_rfl) (by kernel_rfl) (fun _ _ _ h => h) (.inl ⟨by rfl, fun W hW => exec_loadA 25 4 aggI sizI _ rfl s 17 rfl (a.di.vals) rfl ((ar_parts hW.1).2.2.2)⟩) (S0) ?_
            try simp only [Act.put, List.setIfInBounds_toArray, List.set_cons_zero, List.set_cons_succ]
            refine takeD (i := 6) (v := .pointer (some ⟨b, 0, none⟩)) 104 rfl rfl (by kernel_rfl) (by kernel_rfl) (by kernel_rfl) (fun _ _ _ h => h) (.inl ⟨by rfl, fun W hW => exec_move _ _ rfl rfl⟩) (S0) ?_
            try simp only [Act.put, List.setIfInBounds_toArray, List.set_cons_zero, List.set_cons_succ]
            refine takeD (i := 7) (v := .pointer (some ⟨b, 0, none⟩)) 105 rfl rfl (by kernel_rfl) (by kernel_rfl) (by kernel_rfl) (fun _ _ _ h => h) (.inl ⟨by rfl, fun W hW => exec_nil _ _ rfl rfl⟩) (S0) ?_
            try simp only [Act.put, List.setIfInBounds_toArray, List.set_cons_zero, List.set_cons_succ]
            refine takeD (i := 8) (v := .pointer (some ⟨b, 6, none⟩)) 106 rfl rfl (by kernel_rfl) (by kernel_rfl) (by kernel_rfl) (fun _ _ _ h => h) (.inl ⟨by rfl, fun W hW => exec_fieldO 43 _ 1 b 0 6 rfl rfl (fun w => by kernel_rfl)⟩) (S0) ?_
            try simp only [Act.put, List.setIfInBounds_toArray, List.set_cons_zero, List.set_cons_succ]
            refine takeD (i := 9) (v := .agg (i.vals).toArray) 107 rfl rfl (by kernel_rfl) (by kernel_rfl) (by kernel_rfl) (fun _ _ _ h => h) (.inl ⟨by rfl, fun W hW => exec_loadA 25 4 aggI sizI _ rfl b 6 rfl (i.vals) rfl (hW.2)⟩) (S0) ?_
            try simp only [Act.put, List.setIfInBounds_toArray, List.set_cons_zero, List.set_cons_succ]
            refine takeD (i := 10) (v := .bool ra) 108 rfl rfl (by kernel_rfl) (by kernel_rfl) (by kernel_rfl) (fun _ _ _ h => h) (.inl ⟨by rfl, fun W hW => exec_eqI _ _ _ a.di i _ rfl rfl rfl e⟩) (S0) ?_
            try simp only [Act.put, List.setIfInBounds_toArray, List.set_cons_zero, List.set_cons_succ]
            refine takeD (i := 11) (v := .bool ra) 109 rfl rfl (by kernel_rfl) (by kernel_rfl) (by kernel_rfl) (fun _ _ _ h => h) (.inl ⟨by rfl, fun W hW => exec_pick _ _ _ true _ rfl rfl rfl⟩) (S0) ?_
            try simp only [Act.put, List.setIfInBounds_toArray, List.set_cons_zero, List.set_cons_succ]
            refine wpAnyH_done (by kernel_rfl) ?_ _
            clear S0
            go_wp2
            go_meet
            exact ⟨rfl, rfl⟩
        case rest =>
          obtain ⟨rfl, ew⟩ := hcut
          subst ew
          clear hwn
          obtain ⟨q, hq⟩ : ∃ q : Ar, q = ⟨true, m, i, a.sm, a.si⟩ := ⟨_, rfl⟩
          have HQ := hide hq
          clear hq
          go_upto_if 109 with fail
          go_cut [9] (fun v9 wx => Hid (HTail q r wn v9 wx))
          case first =>
            cases ra with
            | false =>
              have FIN : Hid (HTail q r wn (.slice none 0 0) wn) := ⟨⟨_, _, _, rfl⟩, Below.refl _ _, by rw [← HRA.out]; exact RowF.nil _ _ _ _⟩
              go_wp2
              go_meet
              exact FIN.out
            | true =>
              obtain ⟨wo, hwo⟩ : ∃ wo, wo = wn.drew := ⟨_, rfl⟩
              have bo : Below wn.heap.size wn wo := by rw [hwo]; exact (Below.refl _ wn).drew
              have zo : wo.heap.size = wn.heap.size := by rw [hwo]; rfl
              obtain ⟨a', c', w2, hrun, hRF, hb2⟩ := arp_one wo q
              have FIN : Hid (HTail q r wn (.slice a' 1 c') w2) := ⟨⟨_, _, _, rfl⟩, bo.trans (hb2.mono (by omega)), by rw [← HRA.out]; exact hRF.own (fun g _ e => by omega)⟩
              have SS : ∀ W', Below wn.heap.size wn W' → CellsAt W' b 0 (m.vals ++ i.vals) ∧ CellsAt W' s 0 a.vals := fun W' hb => ⟨HOST.out W' (bn.trans (hb.mono (by omega))), (HCA.out.later (by omega) bn).later (by omega) hb⟩
              have S0 := SS wo bo
              obtain ⟨wp, hwp⟩ : ∃ wp, wp = wo.alloc (.cells q.vals.toArray 27) := ⟨_, rfl⟩
              have bp : Below wn.heap.size wn wp := by rw [hwp]; exact bo.alloc (by omega) _
              have S2 := SS w2 (bo.trans (hb2.mono (by omega)))
              have Sp := SS wp bp
              obtain ⟨po, hpo⟩ : ∃ po, po = wo.heap.size := ⟨_, rfl⟩
              rw [← hwp, ← hpo] at hrun
              go_upto_region 15 with fail
              refine region_out (fun W' => CellsAt W' b 0 (m.vals ++ i.vals) ∧ CellsAt W' s 0 a.vals) (by kernel_rfl) ?_
              rw [← hwo]
              refine takeD (i := 0) (v := .slice none 0 0) 110 rfl rfl (by kernel_rfl) (by kernel_rfl) (by kernel_rfl) (fun _ _ _ h => h) (.inl ⟨by rfl, fun W hW => exec_move _ _ rfl rfl⟩) (S0) ?_
              try simp only [Act.put, List.setIfInBounds_toArray, List.set_cons_zero, List.set_cons_succ]
              refine takeD (i := 1) (v := .pointer (some ⟨b, 0, none⟩)) 111 rfl rfl (by kernel_rfl) (by kernel_rfl) (by kernel_rfl) (fun _ _ _ h => h) (.inl ⟨by rfl, fun W hW => exec_move _ _ rfl rfl⟩) (S0) ?_
              try simp only [Act.put, List.setIfInBounds_toArray, List.set_cons_zero, List.set_cons_succ]
              refine takeD (i := 2) (v := .pointer (some ⟨b, 0, none⟩)) 112 rfl rfl (by kernel_rfl) (by kernel_rfl) (by kernel_rfl) (fun _ _ _ h => h) (.inl ⟨by rfl, fun W hW => exec_nil _ _ rfl rfl⟩) (S0) ?_
              try simp only [Act.put, List.setIfInBounds_toArray, List.set_cons_zero, List.set_cons_succ]
              refine takeD (i := 3) (v := .pointer (some ⟨b, 0, none⟩)) 113 rfl rfl (by kernel_rfl) (by kernel_rfl) (by kernel_rfl) (fun _ _ _ h => h) (.inl ⟨by rfl, fun W hW => exec_fieldO 43 _ 0 b 0 0 rfl rfl (fun w => by kernel_rfl)⟩) (S0) ?_
              try simp only [Act.put, List.setIfInBounds_toArray, List.set_cons_zero, List.set_cons_succ]
              refine takeD (i := 4) (v := .agg (m.vals).toArray) 114 rfl rfl (by kernel_rfl) (by kernel_rfl) (by kernel_rfl) (fun _ _ _ h => h) (.inl ⟨by rfl, fun W hW => exec_loadA 23 6 aggM sizM _ rfl b 0 rfl (m.vals) rfl ((CellsAt.append.1 hW.1).1)⟩) (S0) ?_
              try simp only [Act.put, List.setIfInBounds_toArray, List.set_cons_zero, List.set_cons_succ]
              refine takeD (i := 5) (v := .pointer (some ⟨b, 0, none⟩)) 115 rfl rfl (by kernel_rfl) (by kernel_rfl) (by kernel_rfl) (fun _ _ _ h => h) (.inl ⟨by rfl, fun W hW => exec_move _ _ rfl rfl⟩) (S0) ?_
              try simp only [Act.put, List.setIfInBounds_toArray, List.set_cons_zero, List.set_cons_succ]
              refine takeD (i := 6) (v := .pointer (some ⟨b, 0, none⟩)) 116 rfl rfl (by kernel_rfl) (by kernel_rfl) (by kernel_rfl) (fun _ _ _ h => h) (.inl ⟨by rfl, fun W hW => exec_nil _ _ rfl rfl⟩) (S0) ?_
              try simp only [Act.put, List.setIfInBounds_toArray, List.set_cons_zero, List.set_cons_succ]
              refine takeD (i := 7) (v := .pointer (some ⟨b, 6, none⟩)) 117 rfl rfl (by kernel_rfl) (by kernel_rfl) (by kernel_rfl) (fun _ _ _ h => h) (.inl ⟨by rfl, fun W hW => exec_fieldO 43 _ 1 b 0 6 rfl rfl (fun w => by kernel_rfl)⟩) (S0) ?_
              try simp only [Act.put, List.setIfInBounds_toArray, List.set_cons_zero, List.set_cons_succ]
              refine takeD (i := 8) (v := .agg (i.vals).toArray) 118 rfl rfl (by kernel_rfl) (by kernel_rfl) (by kernel_rfl) (fun _ _ _ h => h) (.inl ⟨by rfl, fun W hW => exec_loadA 25 4 aggI sizI _ rfl b 6 rfl (i.vals) rfl ((CellsAt.append.1 hW.1).2)⟩) (S0) ?_
              try simp only [Act.put, List.setIfInBounds_toArray, List.set_cons_zero, List.set_cons_succ]
              refine takeD (i := 9) (v := .pointer (some ⟨s, 1, none⟩)) 119 rfl rfl (by kernel_rfl) (by kernel_rfl) (by kernel_rfl) (fun _ _ _ h => h) (.inl ⟨by rfl, fun W hW => exec_fieldO 27 _ 1 s 0 1 rfl rfl (fun w => by kernel_rfl)⟩) (S0) ?_
              try simp only [Act.put, List.setIfInBounds_toArray, List.set_cons_zero, List.set_cons_succ]
              refine takeD (i := 10) (v := .agg (a.sm.vals).toArray) 120 rfl rfl (by kernel_rfl) (by kernel_rfl) (by kernel_rfl) (fun _ _ _ h => h) (.inl ⟨by rfl, fun W hW => exec_loadA 23 6 aggM sizM _ rfl s 1 rfl (a.sm.vals) rfl ((ar_parts hW.2).1)⟩) (S0) ?_
              try simp only [Act.put, List.setIfInBounds_toArray, List.set_cons_zero, List.set_cons_succ]
              refine takeD (i := 11) (v := .pointer (some ⟨s, 7, none⟩)) 121 rfl rfl (by kernel_rfl) (by kernel_rfl) (by kernel_rfl) (fun _ _ _ h => h) (.inl ⟨by rfl, fun W hW => exec_fieldO 27 _ 2 s 0 7 rfl rfl (fun w => by kernel_rfl)⟩) (S0) ?_
              try simp only [Act.put, List.setIfInBounds_toArray, List.set_cons_zero, List.set_cons_succ]
              refine takeD (i := 12) (v := .agg (a.si.vals).toArray) 122 rfl rfl (by kernel_rfl) (by kernel_rfl) (by kernel_rfl) (fun _ _ _ h => h) (.inl ⟨by rfl, fun W hW => exec_loadA 25 4 aggI sizI _ rfl s 7 rfl (a.si.vals) rfl ((ar_parts hW.2).2.1)⟩) (S0) ?_
              try simp only [Act.put, List.setIfInBounds_toArray, List.set_cons_zero, List.set_cons_succ]
              refine takeD (i := 13) (v := .agg (Ar.vals ⟨true, m, i, a.sm, a.si⟩).toArray) 123 rfl rfl (by kernel_rfl) (by kernel_rfl) (by kernel_rfl) (fun _ _ _ h => h) (.inl ⟨by rfl, fun W hW => exec_build5 _ _ _ _ _ m.a m.b m.c m.d m.e m.f i.a i.b i.c i.d a.sm.a a.sm.b a.sm.c a.sm.d a.sm.e a.sm.f a.si.a a.si.b a.si.c a.si.d rfl rfl rfl rfl rfl rfl⟩) (S0) ?_
              try simp only [Act.put, List.setIfInBounds_toArray, List.set_cons_zero, List.set_cons_succ]
              refine nextD (w' := wp) 14 124 (.slice (some ⟨po, 0, none⟩) 1 1) (by kernel_rfl) rfl rfl (by rfl) (by rw [hwp, hpo, HQ.out]; exact exec_bsA _ ⟨true, m, i, a.sm, a.si⟩ rfl rfl) (Sp) ?_
              try simp only [Act.put, List.setIfInBounds_toArray, List.set_cons_zero, List.set_cons_succ]
              refine nextD (w' := w2) 15 125 (.slice a' 1 c') (by kernel_rfl) rfl rfl (by rfl) (exec_app _ _ 53 53 rfl (.slice none 0 0) (.slice (some ⟨po, 0, none⟩) 1 1) rfl rfl 53 rfl hrun) (S2) ?_
              try simp only [Act.put, List.setIfInBounds_toArray, List.set_cons_zero, List.set_cons_succ]
              refine nextD (w' := w2) 16 9 (.slice a' 1 c') (by kernel_rfl) rfl rfl (by rfl) (exec_assign _ _ rfl rfl) (S2) ?_
              try simp only [Act.put, List.setIfInBounds_toArray, List.set_cons_zero, List.set_cons_succ]
              refine wpAnyH_done (by kernel_rfl) ?_ _
              clear hrun hRF hb2 SS S0 S2 Sp bp hwp hpo bo zo hwo
              go_wp2
              go_meet
              exact FIN.out
          case rest =>
            obtain ⟨⟨a12, n12, c12, rfl⟩, bx0, rx⟩ := hcut.out
            obtain ⟨wx, hwx⟩ : ∃ wx, wx = wc := ⟨_, rfl⟩
            rw [← hwx] at bx0 rx ⊢
            have bx : Below wm.heap.size wm wx := bn.trans (bx0.mono (by omega))
            have CMx := hide (HCM.out.later (by omega) bx)
            have FMx : Hid (∀ j, wx.frozen? ⟨s + 1, j, none⟩ = false) := fun j => (bx.frozen (p := ⟨s + 1, j, none⟩) (by show s + 1 < _; omega)).trans (HFM.out j)
            have CTx := hide (HCT.out.later (by omega) bx)
            have RXN := HRow.out.later bx
            have hWs := HMv.out.but.size
            have hsW := HS.out
            obtain ⟨wy, hwy⟩ : ∃ wy, wy = wx.drew := ⟨_, rfl⟩
            obtain ⟨wz, hwz⟩ : ∃ wz, wz = wy.setCells (s + 1) 0 r.mac.vals := ⟨_, rfl⟩
            have cmy : CellsAt wy (s + 1) 0 zM.vals := by rw [hwy]; exact CMx.out
            have fmy : ∀ j, wy.frozen? ⟨s + 1, j, none⟩ = false := by rw [hwy]; exact FMx.out
            have cty : CellsAt wy (s + 2) 0 r.mac.vals := by rw [hwy]; exact CTx.out
            have bz : But (Only (s + 1)) wx wz := by rw [hwz, hwy]; exact (But.refl (Only (s + 1)) wx).drew.trans (But.cells (s + 1) r.mac.vals 0 wx.drew)
            have ctz : CellsAt wz (s + 2) 0 r.mac.vals := by rw [hwz]; exact cty.but (by rw [hwy]; have := bx.size; show s + 2 < wx.heap.size; omega) (But.cells (s + 1) r.mac.vals 0 wy) (fun e => by have e : s + 2 = s + 1 := e; omega)
            have FE : Hid (HdEnd ρ k W b m i a (hd i a now (Lt.map Prod.snd)) (.returned (.tuple #[.slice a12 n12 c12, .slice x9 n9 c9, r.mac.val])) wz) := by
              unfold Hid
              rw [← HR.out]
              refine HdEnd.fin (ρ' := ρ') (HCa.out.later bx) (HFc.out.below bx.size) (HMv.out.trans (Mv.below bx)) (s + 1) (by omega) HRT.out bz ((RXN.but bz (fun g e => e.2)).own (fun _ _ e => e.1)) ?_
              have rx2 := (rx.own (O' := fun g => Free ρ ρ' k W g ∧ g ≠ s + 1) (fun g _ e => ⟨⟨HFc.out g (by omega), .inl (by omega)⟩, by omega⟩)).but bz (fun g e => e.2)
              rw [HQ.out] at rx2
              exact rx2.own (fun _ _ e => e.1)
            have LV := hide (run_loadVarA 23 6 aggM sizM (s + 1) 0 r.mac.vals rfl (cmy.stored (vs := r.mac.vals) rfl))
            rw [← hwz] at LV
            clear hsW hWs bx bx0 rx hcut RXN hwx
            go_upto_region 16 with fail
            refine region_out (fun W' => CellsAt W' (s + 2) 0 r.mac.vals) (by kernel_rfl) ?_
            rw [← hwy]
            refine takeD (i := 0) (v := .slice a12 n12 c12) 126 rfl rfl (by kernel_rfl) (by kernel_rfl) (by kernel_rfl) (fun _ _ _ h => h) (.inl ⟨by rfl, fun W hW => exec_move _ _ rfl rfl⟩) (cty) ?_
            try simp only [Act.put, List.setIfInBounds_toArray, List.set_cons_zero, List.set_cons_succ]
            refine takeD (i := 1) (v := .slice x9 n9 c9) 127 rfl rfl (by kernel_rfl) (by kernel_rfl) (by kernel_rfl) (fun _ _ _ h => h) (.inl ⟨by rfl, fun W hW => exec_move _ _ rfl rfl⟩) (cty) ?_
            try simp only [Act.put, List.setIfInBounds_toArray, List.set_cons_zero, List.set_cons_succ]
            refine takeD (i := 2) (v := .agg (r.mac.vals).toArray) 128 rfl rfl (by kernel_rfl) (by kernel_rfl) (by kernel_rfl) (fun _ _ _ h => h) (.inl ⟨by rfl, fun W hW => exec_loadA 23 6 aggM sizM _ rfl (s + 2) 0 rfl (r.mac.vals) rfl (hW)⟩) (cty) ?_
            try simp only [Act.put, List.setIfInBounds_toArray, List.set_cons_zero, List.set_cons_succ]
            refine takeD (i := 3) (v := .slice a12 n12 c12) 6 rfl rfl (by kernel_rfl) (by kernel_rfl) (by kernel_rfl) (fun _ _ _ h => h) (.inl ⟨by rfl, fun W hW => exec_assign _ _ rfl rfl⟩) (cty) ?_
            try simp only [Act.put, List.setIfInBounds_toArray, List.set_cons_zero, List.set_cons_succ]
            refine takeD (i := 4) (v := .slice x9 n9 c9) 7 rfl rfl (by kernel_rfl) (by kernel_rfl) (by kernel_rfl) (fun _ _ _ h => h) (.inl ⟨by rfl, fun W hW => exec_assign _ _ rfl rfl⟩) (cty) ?_
            try simp only [Act.put, List.setIfInBounds_toArray, List.set_cons_zero, List.set_cons_succ]
            refine storeD (w' := wz) 5 (by kernel_rfl) rfl rfl (by rfl) (by rw [hwz]; exact exec_storeA 23 6 sizM _ _ rfl (s + 1) 0 rfl r.mac.vals zM.vals rfl rfl rfl cmy fmy (m6_one _)) (ctz) ?_
            try simp only [Act.put, List.setIfInBounds_toArray, List.set_cons_zero, List.set_cons_succ]
            refine wpAnyH_done (by kernel_rfl) ?_ _
            clear hwy hwz cmy fmy cty bz ctz
            go_wp2
            refine bodyPost_ret (v := .tuple #[.slice a12 n12 c12, .slice x9 n9 c9, r.mac.val]) ?_ rfl FE.out
            exact results_3 rfl _ _ (s + 1) _ _ _ rfl rfl rfl LV.out
theorem rHeard_any (h : Ca ρ k W b m i L) (hF : Fit ρ W) (now : Int) (hok : LOk now L) (a : Ar) :
    Calls Try.prog 30 #[.pointer (some ⟨b, 0, none⟩), a.val, .int .i64 now] W (HdEnd ρ k W b m i a (hd i a now L)) := by
  obtain ⟨lv, Lt, rfl, h⟩ := h
  exact rheard_any h hF now hok a
end
end Go.Proofs.Ytdcpnjlldocdcaa
