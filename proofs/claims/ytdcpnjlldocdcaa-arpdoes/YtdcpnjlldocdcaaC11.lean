
/-
  The document's cache: Find, where the neighbour is not there and there is room.
-/
import Derived.Test.YtdcpnjlldocdcaaC10
namespace Go.Proofs.Ytdcpnjlldocdcaa
open Go.RowKit Go.Shelf
section
variable {ρ : Nat → Role} {k : Nat} {W : World} {b : Nat} {m : M6} {i : I4} {lv : Value} {Lt : List (Nat × Nb)} {L : List Nb}
set_option maxRecDepth 100000 in
set_option maxHeartbeats 2000000 in
theorem rfind_room (h : CAt ρ k W b m i lv Lt) (hF : Fit ρ W) (now buf : Int) (hok : LOk now (Lt.map Prod.snd)) (ip : I4) (hf : fndI ip (Lt.map Prod.snd) = none) (hl8 : Lt.length < 8) :
    Calls Try.prog 27 #[.pointer (some ⟨b, 0, none⟩), ip.val, .int .i64 buf, .int .i64 now] W (FdEnd ρ k W b m i ip (fd ip buf now (Lt.map Prod.snd))) := by
  have hlen : Lt.length ≤ 8 := by have := hok.len; simpa using this
  obtain ⟨s, hs⟩ : ∃ s, s = W.heap.size := ⟨_, rfl⟩
  obtain ⟨w1, hw1⟩ : ∃ w1, w1 = (W.alloc (.cells #[.int .u8 ip.a, .int .u8 ip.b, .int .u8 ip.c, .int .u8 ip.d] 25)).alloc (.cells #[.int .u8 0, .int .u8 0, .int .u8 0, .int .u8 0, .int .u8 0, .int .u8 0] 23) := ⟨_, rfl⟩
  have hb1 : Below W.heap.size W w1 := by rw [hw1]; exact ((Below.refl _ W).alloc (Nat.le_refl _) _).alloc (by simp) _
  have sz1 : w1.heap.size = s + 2 := by rw [hw1]; simp [hs]
  have ci1 : CellsAt w1 s 0 ip.vals := by
    rw [hw1, hs]
    exact (CellsAt.new W ip.vals 25).but (by simp) ((But.refl (fun _ => False) _).alloc _) id
  have cm1 : CellsAt w1 (s + 1) 0 zM.vals := by
    have := CellsAt.new (W.alloc (.cells #[.int .u8 ip.a, .int .u8 ip.b, .int .u8 ip.c, .int .u8 ip.d] 25)) zM.vals 23
    rw [World.size_alloc, ← hs] at this
    rw [hw1]; exact this
  have fm1 : ∀ j, w1.frozen? ⟨s + 1, j, none⟩ = false := fun j => by
    have := frozen_new (W.alloc (.cells #[.int .u8 ip.a, .int .u8 ip.b, .int .u8 ip.c, .int .u8 ip.d] 25)) #[.int .u8 0, .int .u8 0, .int .u8 0, .int .u8 0, .int .u8 0, .int .u8 0] 23 j
    rw [World.size_alloc, ← hs] at this
    rw [hw1]; exact this
  have NB := at_any (h.later hb1) (by omega) ip
  have HNB := hide NB
  have H1 := hide (h.later hb1)
  have F1 := hide (hF.below hb1.size)
  have HB1 := hide hb1
  have CI := hide ci1
  have CM := hide cm1
  have FM := hide fm1
  have SZ := hide sz1
  have HS := hide hs
  have HOK := hide hok
  have HF0 := hide hF
  clear NB hb1 ci1 cm1 fm1 sz1 hF
  rw [show ip.val = .agg #[.int .u8 ip.a, .int .u8 ip.b, .int .u8 ip.c, .int .u8 ip.d] from rfl] at HNB ⊢
  go_enter Try.func27, Try.ntmps27
  have hw1' := hw1.symm
  have hs' := hs.symm
  clear hw1 hs
  have i0 := CI.out 0 _ rfl
  have i1 := CI.out 1 _ rfl
  have i2 := CI.out 2 _ rfl
  have i3 := CI.out 3 _ rfl
  simp only [Nat.zero_add] at i0 i1 i2 i3
  go_wp2_with fail
  clear hw1' hs' i0 i1 i2 i3
  refine HNB.out.mono ?_
  rintro _ w3 ⟨rfl, hb2⟩
  have sL1 : s < w1.heap.size := by have := SZ.out; omega
  have tL1 : s + 1 < w1.heap.size := by have := SZ.out; omega
  have H3 := hide (H1.out.later hb2)
  have F3 := hide (F1.out.below hb2.size)
  have CI3 := hide (CI.out.later sL1 hb2)
  have CM3 := hide (CM.out.later tL1 hb2)
  have FM3 : Hid (∀ j, w3.frozen? ⟨s + 1, j, none⟩ = false) := fun j => (hb2.frozen (p := ⟨s + 1, j, none⟩) tL1).trans (FM.out j)
  have M3 : Hid (Mv k ρ ρ W w3) := Mv.below (HB1.out.trans (hb2.mono HB1.out.size))
  have SZ3 : Hid (s + 2 ≤ w3.heap.size) := by have := SZ.out; have := hb2.size; unfold Hid; omega
  have RT : Hid (ρ (s + 1) = (0, 0, 0)) := HF0.out (s + 1) (by have := HS.out; omega)
  clear HNB H1 F1 CI CM FM hb2 sL1 tL1
  have ea : atI ip (Lt.map Prod.snd) = -1 := by unfold atI; rw [hf]
  rw [ea]
  clear ea
  have EF : Hid (fd ip buf now (Lt.map Prod.snd) = ⟨zM, [], true, 80, Lt.map Prod.snd ++ [⟨ip, 1, zM, now, now, 1, [buf]⟩]⟩) := by
    unfold Hid fd
    rw [hf]
    simp only [room]
    rw [if_pos (by simpa using hl8)]
  obtain ⟨n, hn⟩ : ∃ n, n = Lt.length := ⟨_, rfl⟩
  obtain ⟨la, lc, elv, -⟩ := H3.out.row
  have xl : w3.cell? ⟨b, 10, none⟩ = some (.slice la n lc) := by rw [hn, ← elv]; exact H3.out.lst
  have zn : (n : Int) < 8 := by omega
  have zn8 : ¬ (n : Int) = 8 := by omega
  have HN := hide hn
  have HL8 := hide hl8
  clear hf hn elv hl8
  go_wp2_with fail
  clear xl zn zn8
  obtain ⟨w4, hw4⟩ : ∃ w4, w4 = w3.drew := ⟨_, rfl⟩
  have b4 : Below w3.heap.size w3 w4 := by rw [hw4]; exact (Below.refl _ w3).drew
  have sz4 : w4.heap.size = w3.heap.size := by rw [hw4]; rfl
  obtain ⟨p, hp⟩ : ∃ p, p = w4.heap.size := ⟨_, rfl⟩
  obtain ⟨w5, hw5⟩ : ∃ w5, w5 = w4.alloc (.cells #[.int .i64 buf] 3) := ⟨_, rfl⟩
  have sz5 : w5.heap.size = p + 1 := by rw [hw5]; simp [hp]
  have b5 : Below w3.heap.size w3 w5 := by rw [hw5]; exact b4.alloc (by omega) _
  obtain ⟨w6, hw6⟩ : ∃ w6, w6 = w5.alloc (.cells (Nb.cells ⟨ip, 1, zM, now, now, 1, [buf]⟩ (.slice (some ⟨p, 0, none⟩) 1 1)).toArray 66) := ⟨_, rfl⟩
  have sz6 : w6.heap.size = p + 2 := by rw [hw6]; simp [sz5]
  have b6 : Below w3.heap.size w3 w6 := by rw [hw6]; exact b5.alloc (by omega) _
  have c6 : CellsAt w6 (p + 1) 0 (Nb.cells ⟨ip, 1, zM, now, now, 1, [buf]⟩ (.slice (some ⟨p, 0, none⟩) 1 1)) := by
    have := CellsAt.new w5 (Nb.cells ⟨ip, 1, zM, now, now, 1, [buf]⟩ (.slice (some ⟨p, 0, none⟩) 1 1)) 66
    rw [sz5] at this
    rw [hw6]; exact this
  have r5 : RowN (fun g => g = p) w5 (.slice (some ⟨p, 0, none⟩) 1 1) [buf] := by
    refine ⟨_, 1, rfl, Nat.le_refl _, by unfold maxLen; omega, (fun e => by cases e), fun ad e => ?_⟩
    cases e
    have hc := CellsAt.new w4 [.int .i64 buf] 3
    rw [← hp] at hc
    refine ⟨p, 0, rfl, by omega, fun _ => rfl, fun j hj => ?_, fun j => ?_, fun j x hx => ?_⟩
    · rw [hw5]; exact hc.is j hj
    · rw [hw5, hp]; exact frozen_new w4 _ _ _
    · cases j with
      | zero => simp at hx; subst hx; rw [hw5]; exact hc 0 _ rfl
      | succ j => simp at hx
  have r6 := r5.but (K := fun _ => False) (W' := w6) (by rw [hw6]; exact (But.refl _ _).alloc _) (fun _ _ => id)
  obtain ⟨a7, c7, w7, hrun, b7, l7, f7, ρ', t, h7, F7, M7, kp⟩ := H3.out.add F3.out (by have := HL8.out; omega) ⟨ip, 1, zM, now, now, 1, [buf]⟩ (.slice (some ⟨p, 0, none⟩) 1 1) b6 (p + 1) p c6 r6 (by simp) (by omega) (by omega)
  rw [← HN.out] at hrun h7 M7
  obtain ⟨w8, hw8⟩ : ∃ w8, w8 = w7.setCell ⟨b, 10, none⟩ (.slice a7 (n + 1) c7) := ⟨_, rfl⟩
  rw [← hw8] at h7 M7
  have sz8 : w8.heap.size = w7.heap.size := by rw [hw8]; simp
  have sp := SZ3.out
  have ks : ρ s = (0, 0, 0) := HF0.out s (by have := HS.out; omega)
  have kt : ρ (s + 1) = (0, 0, 0) := RT.out
  have k0 := h.pos
  have cs3 : ∀ W', Below w3.heap.size w3 W' → CellsAt W' s 0 ip.vals := fun W' hb => CI3.out.later (by omega) hb
  have S3 : ∀ W', Below w3.heap.size w3 W' → W'.cell? ⟨b, 10, none⟩ = some lv ∧ CellsAt W' s 0 ip.vals := fun W' hb => ⟨(hb.cell (p := ⟨b, 10, none⟩) H3.out.lt).trans H3.out.lst, cs3 W' hb⟩
  have ci7 : CellsAt w7 s 0 ip.vals := (cs3 w6 b6).but (by omega) b7 (fun e => by rw [ks] at e; have e := e.1; have e : 0 = k := e; omega)
  have cm7 : CellsAt w7 (s + 1) 0 zM.vals := (CM3.out.later (by omega) b6).but (by omega) b7 (fun e => by rw [kt] at e; have e := e.1; have e : 0 = k := e; omega)
  have fm7 : ∀ j, w7.frozen? ⟨s + 1, j, none⟩ = false := fun j => (b7.frozen (p := ⟨s + 1, j, none⟩) (by show s + 1 < _; omega) (fun e => by rw [kt] at e; have e := e.1; have e : 0 = k := e; omega)).trans ((b6.frozen (p := ⟨s + 1, j, none⟩) (by show s + 1 < _; omega)).trans (FM3.out j))
  have bW8 : But (Only b) w7 w8 := by rw [hw8]; exact (But.refl (Only b) w7).setCell (p := ⟨b, 10, none⟩) (.inr rfl) _
  have hbW : b < W.heap.size := h.lt
  have hsW := HS.out
  have b7s := b7.size
  have CI8 := hide (ci7.but (by omega) bW8 (fun e => by have e : s = b := e; omega))
  have CM8 := hide (cm7.but (by omega) bW8 (fun e => by have e : s + 1 = b := e; omega))
  have FM8 : Hid (∀ j, w8.frozen? ⟨s + 1, j, none⟩ = false) := fun j => (bW8.frozen (p := ⟨s + 1, j, none⟩) (by show s + 1 < _; omega) (fun e => by have e : s + 1 = b := e; omega)).trans (fm7 j)
  have H8 := hide h7
  have F8 : Hid (Fit ρ' w8) := F7.below (by omega)
  have M8 : Hid (Mv k ρ ρ' W w8) := M3.out.trans M7
  have SZ8 : Hid (s + 2 ≤ w8.heap.size) := by unfold Hid; omega
  have RS8 : Hid (ρ' s = (0, 0, 0) ∧ ρ' (s + 1) = (0, 0, 0)) := ⟨(kp s (by omega) (by omega)).trans ks, (kp (s + 1) (by omega) (by omega)).trans kt⟩
  refine regionJ (fun j => j != 15) (fun W' => W'.cell? ⟨b, 10, none⟩ = some lv ∧ CellsAt W' s 0 ip.vals) (by kernel_rfl) ?_
  rw [← hw4]
  refine takeJ (i := 0) (v := .pointer (some ⟨b, 0, none⟩)) 178 rfl rfl (by kernel_rfl) (by kernel_rfl) (by kernel_rfl) (by kernel_rfl) (fun _ _ _ h => h) (.inl ⟨by rfl, fun W hW => exec_move _ _ rfl rfl⟩) (S3 w4 b4) ?_
  try simp only [Act.put, List.setIfInBounds_toArray, List.set_cons_zero, List.set_cons_succ]
  refine takeJ (i := 1) (v := .pointer (some ⟨b, 0, none⟩)) 179 rfl rfl (by kernel_rfl) (by kernel_rfl) (by kernel_rfl) (by kernel_rfl) (fun _ _ _ h => h) (.inl ⟨by rfl, fun W hW => exec_move _ _ rfl rfl⟩) (S3 w4 b4) ?_
  try simp only [Act.put, List.setIfInBounds_toArray, List.set_cons_zero, List.set_cons_succ]
  refine takeJ (i := 2) (v := .pointer (some ⟨b, 0, none⟩)) 180 rfl rfl (by kernel_rfl) (by kernel_rfl) (by kernel_rfl) (by kernel_rfl) (fun _ _ _ h => h) (.inl ⟨by rfl, fun W hW => exec_nil _ _ rfl rfl⟩) (S3 w4 b4) ?_
  try simp only [Act.put, List.setIfInBounds_toArray, List.set_cons_zero, List.set_cons_succ]
  refine takeJ (i := 3) (v := .pointer (some ⟨b, 10, none⟩)) 181 rfl rfl (by kernel_rfl) (by kernel_rfl) (by kernel_rfl) (by kernel_rfl) (fun _ _ _ h => h) (.inl ⟨by rfl, fun W hW => exec_fieldO 43 _ 2 b 0 10 rfl rfl (fun w => by kernel_rfl)⟩) (S3 w4 b4) ?_
  try simp only [Act.put, List.setIfInBounds_toArray, List.set_cons_zero, List.set_cons_succ]
  refine takeJ (i := 4) (v := lv) 182 rfl rfl (by kernel_rfl) (by kernel_rfl) (by kernel_rfl) (by kernel_rfl) (fun _ _ _ h => h) (.inl ⟨by rfl, fun W hW => exec_load1 41 oneL _ rfl b 10 rfl (lv) (hW.1)⟩) (S3 w4 b4) ?_
  try simp only [Act.put, List.setIfInBounds_toArray, List.set_cons_zero, List.set_cons_succ]
  refine takeJ (i := 5) (v := .agg (ip.vals).toArray) 183 rfl rfl (by kernel_rfl) (by kernel_rfl) (by kernel_rfl) (by kernel_rfl) (fun _ _ _ h => h) (.inl ⟨by rfl, fun W hW => exec_loadA 25 4 aggI sizI _ rfl s 0 rfl (ip.vals) rfl (hW.2)⟩) (S3 w4 b4) ?_
  try simp only [Act.put, List.setIfInBounds_toArray, List.set_cons_zero, List.set_cons_succ]
  refine takeJ (i := 6) (v := .int .i64 now) 184 rfl rfl (by kernel_rfl) (by kernel_rfl) (by kernel_rfl) (by kernel_rfl) (fun _ _ _ h => h) (.inl ⟨by rfl, fun W hW => exec_move _ _ rfl rfl⟩) (S3 w4 b4) ?_
  try simp only [Act.put, List.setIfInBounds_toArray, List.set_cons_zero, List.set_cons_succ]
  refine takeJ (i := 7) (v := .int .i64 now) 185 rfl rfl (by kernel_rfl) (by kernel_rfl) (by kernel_rfl) (by kernel_rfl) (fun _ _ _ h => h) (.inl ⟨by rfl, fun W hW => exec_move _ _ rfl rfl⟩) (S3 w4 b4) ?_
  try simp only [Act.put, List.setIfInBounds_toArray, List.set_cons_zero, List.set_cons_succ]
  refine takeJ (i := 8) (v := .int .i64 buf) 186 rfl rfl (by kernel_rfl) (by kernel_rfl) (by kernel_rfl) (by kernel_rfl) (fun _ _ _ h => h) (.inl ⟨by rfl, fun W hW => exec_move _ _ rfl rfl⟩) (S3 w4 b4) ?_
  try simp only [Act.put, List.setIfInBounds_toArray, List.set_cons_zero, List.set_cons_succ]
  refine nextJ (w' := w5) 9 187 (.slice (some ⟨p, 0, none⟩) 1 1) (by kernel_rfl) rfl rfl (by rfl) (by rw [hw5, hp]; exact exec_bsI _ buf rfl rfl) (S3 w5 b5) ?_
  try simp only [Act.put, List.setIfInBounds_toArray, List.set_cons_zero, List.set_cons_succ]
  refine takeJ (i := 10) (v := .agg (Nb.cells ⟨ip, 1, zM, now, now, 1, [buf]⟩ (.slice (some ⟨p, 0, none⟩) 1 1)).toArray) 188 rfl rfl (by kernel_rfl) (by kernel_rfl) (by kernel_rfl) (by kernel_rfl) (fun _ _ _ h => h) (.inl ⟨by rfl, fun W hW => exec_bldN _ _ _ _ ip.a ip.b ip.c ip.d now now (some ⟨p, 0, none⟩) 1 1 rfl rfl rfl rfl rfl (fun _ => rfl)⟩) (S3 w5 b5) ?_
  try simp only [Act.put, List.setIfInBounds_toArray, List.set_cons_zero, List.set_cons_succ]
  refine nextJ (w' := w6) 11 189 (.slice (some ⟨p + 1, 0, none⟩) 1 1) (by kernel_rfl) rfl rfl (by rfl) (by rw [hw6, ← sz5]; exact exec_bsN _ _ _ _ _ rfl rfl) (S3 w6 b6) ?_
  try simp only [Act.put, List.setIfInBounds_toArray, List.set_cons_zero, List.set_cons_succ]
  refine nextJ (w' := w7) 12 190 (.slice a7 (n + 1) c7) (by kernel_rfl) rfl rfl (by rfl) (exec_app _ _ 41 41 rfl lv (.slice (some ⟨p + 1, 0, none⟩) 1 1) rfl rfl 41 rfl hrun) (⟨l7, ci7⟩) ?_
  try simp only [Act.put, List.setIfInBounds_toArray, List.set_cons_zero, List.set_cons_succ]
  have S7 : w7.cell? ⟨b, 10, none⟩ = some lv ∧ CellsAt w7 s 0 ip.vals := ⟨l7, ci7⟩
  refine nextJ (w' := w7) 13 191 (.pointer (some ⟨b, 0, none⟩)) (by kernel_rfl) rfl rfl (by rfl) (exec_nil _ _ rfl rfl) (S7) ?_
  try simp only [Act.put, List.setIfInBounds_toArray, List.set_cons_zero, List.set_cons_succ]
  refine nextJ (w' := w7) 14 192 (.pointer (some ⟨b, 10, none⟩)) (by kernel_rfl) rfl rfl (by rfl) (exec_fieldO 43 _ 2 b 0 10 rfl rfl (fun w => by kernel_rfl)) (S7) ?_
  try simp only [Act.put, List.setIfInBounds_toArray, List.set_cons_zero, List.set_cons_succ]
  refine storeJ (w' := w8) 15 (by kernel_rfl) rfl rfl (by rfl) (by rw [hw8]; exact exec_store1 41 s1L _ _ rfl b 10 rfl lv _ rfl l7 f7 rfl) ((fun e => by simp at e)) ?_
  try simp only [Act.put, List.setIfInBounds_toArray, List.set_cons_zero, List.set_cons_succ]
  refine doneJ (by kernel_rfl) ?_ _
  clear hrun b7 l7 f7 h7 F7 M7 kp r6 r5 c6 b6 b5 b4 hw4 hw5 hw6 hw8 sz4 sz5 sz6 sz8 cs3 S3 ci7 cm7 fm7 bW8 hbW hsW b7s sp ks kt hp
  have RQ := hide (rrequest_any b m i ip H8.out.host)
  have i0 := CI8.out 0 _ rfl
  have i1 := CI8.out 1 _ rfl
  have i2 := CI8.out 2 _ rfl
  have i3 := CI8.out 3 _ rfl
  simp only [Nat.zero_add] at i0 i1 i2 i3
  rw [show ip.val = .agg #[.int .u8 ip.a, .int .u8 ip.b, .int .u8 ip.c, .int .u8 ip.d] from rfl] at RQ
  obtain ⟨r, hr⟩ : ∃ r : Ar, r = ⟨false, m, i, zM, ip⟩ := ⟨_, rfl⟩
  rw [← hr] at RQ
  go_wp2_with fail
  refine RQ.out.mono ?_
  rintro _ w9 ⟨rfl, b9⟩
  clear i0 i1 i2 i3 RQ
  have sz9 := b9.size
  obtain ⟨w10, hw10⟩ : ∃ w10, w10 = w9.alloc (.cells r.vals.toArray 27) := ⟨_, rfl⟩
  have b10 : Below w8.heap.size w8 w10 := by rw [hw10]; exact b9.alloc sz9 _
  have c10 : CellsAt w10 w9.heap.size 0 r.vals := by rw [hw10]; exact CellsAt.new w9 r.vals 27
  have f10 : ∀ j, w10.frozen? ⟨w9.heap.size, j, none⟩ = false := fun j => by rw [hw10]; exact frozen_new w9 _ _ _
  have sz10 : w10.heap.size = w9.heap.size + 1 := by rw [hw10]; simp
  have sp := SZ8.out
  have CM10 := hide (CM8.out.later (by omega) b10)
  have FM10 : Hid (∀ j, w10.frozen? ⟨s + 1, j, none⟩ = false) := fun j => (b10.frozen (p := ⟨s + 1, j, none⟩) (by show s + 1 < _; omega)).trans (FM8.out j)
  have FIN : Hid (FdEnd ρ k W b m i ip (fd ip buf now (Lt.map Prod.snd)) (.returned (.tuple #[zM.val, .slice none 0 0, .slice (some ⟨w9.heap.size, 0, none⟩) 1 1, .int .i64 80])) (w10.setCells (s + 1) 0 zM.vals)) := by
    unfold Hid
    rw [EF.out]
    have hW8 := M8.out.but.size
    refine FdEnd.put (ρ' := ρ') (r := ⟨zM, [], true, 80, Lt.map Prod.snd ++ [⟨ip, 1, zM, now, now, 1, [buf]⟩]⟩) ⟨_, _, by rw [List.map_append]; rfl, H8.out.later b10⟩ (F8.out.below b10.size) (M8.out.trans (Mv.below b10)) (s + 1) (by have := HS.out; omega) RS8.out.2 (RowN.nil _ _) ?_
    refine ⟨_, 1, rfl, Nat.le_refl _, by unfold maxLen; omega, (fun e => by cases e), fun ad e => ?_⟩
    cases e
    refine ⟨w9.heap.size, rfl, ⟨⟨F8.out _ sz9, .inl (by omega)⟩, by omega⟩, by omega, fun j hj => ?_, f10, fun q hq => ?_⟩
    · have := c10.is j hj
      rw [Nat.zero_add] at this
      exact this
    · have : q = 0 := by simp at hq; omega
      subst this
      rw [Nat.zero_mul]
      show CellsAt w10 w9.heap.size 0 (Ar.vals ⟨false, m, i, zM, ip⟩)
      rw [← hr]; exact c10
  obtain ⟨s9, hs9⟩ : ∃ s9, s9 = w9.heap.size := ⟨_, rfl⟩
  rw [← hs9] at FIN
  have LV := hide (run_loadVarA 23 6 aggM sizM (s + 1) 0 zM.vals rfl (CM10.out.stored rfl))
  clear c10 f10 sz10 b10 b9 sz9 sp
  have hw10' := hw10.symm
  have hs9' := hs9.symm
  have z0 := CM10.out 0 _ rfl
  have z1 := CM10.out 1 _ rfl
  have z2 := CM10.out 2 _ rfl
  have z3 := CM10.out 3 _ rfl
  have z4 := CM10.out 4 _ rfl
  have z5 := CM10.out 5 _ rfl
  simp only [Nat.zero_add] at z0 z1 z2 z3 z4 z5
  have zf := FM10.out
  clear hw10 hs9
  rename_i K hK
  refine hK _ _ ?_
  refine wpList_val rfl (exec_bsA (.tmp 196) r rfl rfl) ?_
  rw [hw10', hs9']
  clear hw10' hs9'
  go_wp2
  refine bodyPost_ret (v := .tuple #[zM.val, .slice none 0 0, .slice (some ⟨s9, 0, none⟩) 1 1, .int .i64 80]) ?_ rfl FIN.out
  exact results_4 rfl _ _ (s + 1) _ _ _ _ rfl rfl rfl rfl LV.out
end
end Go.Proofs.Ytdcpnjlldocdcaa
