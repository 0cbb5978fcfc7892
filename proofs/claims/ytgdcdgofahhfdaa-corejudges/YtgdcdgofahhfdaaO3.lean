
/-
  Package core: what is judged: is it acceptable; is it said again; is it the latest.
-/
import Derived.Test.YtgdcdgofahhfdaaO2
namespace Go.Proofs.Ytgdcdgofahhfdaa
open Go.RowKit Go.Shelf

/-- is a segment acceptable? -/
def accB (c : Ct) (s : Sg) : Bool :=
  if 0 < s.size then wanted c s.seq || wanted c ((s.seq + (s.size - 1)) % 4294967296)
  else if 0 < win c then wanted c s.seq else decide (s.seq = c.rcv)
theorem size_nn (s : Sg) : 0 ≤ s.size ∧ s.size ≤ s.dat.length + 2 := by
  unfold Sg.size
  split <;> split <;> omega
section
variable {w : World} {b : Nat} {c : Ct} {s : Sg} {gv : Value} {da : Option Addr} {dc : Nat} {v : Vd}
set_option maxHeartbeats 4000000 in
theorem liesRight_any (J : JgAt w b c s gv (.slice da s.dat.length dc) v) (hl : s.dat.length ≤ 1125899906842624) : Calls Try.prog 50 #[.pointer (some ⟨b, 0, none⟩)] w fun e w' => e = .returned (.bool (accB c s)) ∧ Below w.heap.size w w' := by
  obtain ⟨Z, hZ⟩ : ∃ Z, Z = s.cells gv (.slice da s.dat.length dc) := ⟨_, rfl⟩
  have LZ : Hid (Z.length = 10) := by rw [hZ]; exact rfl
  have CS : Hid (CellsAt w b 11 Z) := by rw [hZ]; exact J.cs
  have SZ := Size_any s gv da dc w hl
  rw [← hZ] at SZ
  obtain ⟨n, hn⟩ : ∃ n, n = s.size := ⟨_, rfl⟩
  rw [← hn] at SZ
  have HSZ := hide SZ
  have HJ := hide J
  obtain ⟨n0, n1⟩ := size_nn s
  rw [← hn] at n0 n1
  have n2 : n ≤ 1125899906842626 := by omega
  obtain ⟨R, hR⟩ : ∃ R, R = accB c s := ⟨_, rfl⟩
  have HA : Hid (R = if 0 < n then wanted c s.seq || wanted c ((s.seq + (n - 1)) % 4294967296) else if 0 < win c then wanted c s.seq else decide (s.seq = c.rcv)) := by rw [hR, hn]; exact rfl
  rw [← hR]
  clear hR
  clear J SZ hZ hn n1
  go_enter Try.func50, Try.ntmps50
  go_wp2_with (refine wpList_loadA rfl 28 10 aggSg sizSg _ rfl b 11 rfl Z LZ.out CS.out ?_)
  refine HSZ.out.mono ?_
  rintro _ w1 ⟨rfl, b1⟩
  have HB1 := hide b1
  have HJ1 := hide (HJ.out.later b1)
  have x13 : w1.cell? ⟨b, 13, none⟩ = some (.int .u32 s.seq) := HJ1.out.cs 2 _ rfl
  have x9 : w1.cell? ⟨b, 9, none⟩ = some (.int .u32 c.rcv) := HJ1.out.cc 9 _ rfl
  have x10 : w1.cell? ⟨b, 10, none⟩ = some (.int .u32 c.adv) := HJ1.out.cc 10 _ rfl
  clear b1 HSZ
  by_cases h : 0 < n
  · obtain ⟨a, ha⟩ : ∃ a, a = wanted c s.seq := ⟨_, rfl⟩
    obtain ⟨a2, ha2⟩ : ∃ a2, a2 = wanted c ((s.seq + (n - 1)) % 4294967296) := ⟨_, rfl⟩
    have HR := HA.out
    rw [if_pos h, ← ha, ← ha2] at HR
    have W1 := isWanted_any HJ1.out s.seq
    rw [← ha] at W1
    have HW1 := hide W1
    have HR2 := hide HR
    have HA2 := hide ha2
    clear ha W1 HA HR ha2
    go_wp2_with fail
    refine HW1.out.mono ?_
    rintro _ w2 ⟨rfl, b2⟩
    have HB2 := hide (later HB1.out b2)
    have HJ2 := hide (HJ1.out.later b2)
    have x13' : w2.cell? ⟨b, 13, none⟩ = some (.int .u32 s.seq) := HJ2.out.cs 2 _ rfl
    clear b2 HW1
    cases a with
    | true =>
      go_wp2
      go_ret
      exact ⟨by rw [HR2.out]; rfl, HB2.out⟩
    | false =>
      have W2 := isWanted_any HJ2.out ((s.seq + (n - 1)) % 4294967296)
      rw [← HA2.out] at W2
      have HW2 := hide W2
      clear W2
      go_wp2_with fail
      rw [show (s.seq + (n - 1) % 4294967296) % 4294967296 = (s.seq + (n - 1)) % 4294967296 by omega]
      refine HW2.out.mono ?_
      rintro _ w3 ⟨rfl, b3⟩
      have HB3 := hide (later HB2.out b3)
      clear b3 HW2
      go_wp2
      go_ret
      exact ⟨by rw [HR2.out]; rfl, HB3.out⟩
  · have W1 := window_any HJ1.out
    obtain ⟨m, hm⟩ : ∃ m, m = win c := ⟨_, rfl⟩
    have HR := HA.out
    rw [if_neg h, ← hm] at HR
    rw [← hm] at W1
    have HW1 := hide W1
    have HR2 := hide HR
    clear hm W1 HA HR
    go_wp2_with fail
    refine HW1.out.mono ?_
    rintro _ w2 ⟨rfl, b2⟩
    have HB2 := hide (later HB1.out b2)
    have HJ2 := hide (HJ1.out.later b2)
    have x13' : w2.cell? ⟨b, 13, none⟩ = some (.int .u32 s.seq) := HJ2.out.cs 2 _ rfl
    have x9' : w2.cell? ⟨b, 9, none⟩ = some (.int .u32 c.rcv) := HJ2.out.cc 9 _ rfl
    clear b2 HW1
    by_cases h2 : 0 < m
    · have W2 := isWanted_any HJ2.out s.seq
      have HR := HR2.out
      rw [if_pos h2] at HR
      rw [← HR] at W2
      have HW2 := hide W2
      clear HR W2 HR2
      go_wp2_with fail
      refine HW2.out.mono ?_
      rintro _ w3 ⟨rfl, b3⟩
      have HB3 := hide (later HB2.out b3)
      clear b3 HW2
      go_wp2
      go_ret
      exact ⟨rfl, HB3.out⟩
    · have HR := HR2.out
      rw [if_neg h2] at HR
      have HR3 := hide HR
      clear HR HR2
      go_upto_region 6 with fail
      refine region_quiet_C (fun W => Below w2.heap.size w2 W) (by kernel_rfl) (by kernel_rfl) (later_drew _) ?_
      go_big_quiet_step (fail)
      go_big_quiet_want
      refine quiet_pure (.pointer (some ⟨b, 0, none⟩)) (fun W hW => exec_nil _ _ rfl rfl) ?_
      go_big_quiet_on
      simp only [Act.put, List.setIfInBounds_toArray, List.set_cons_succ, List.set_cons_zero]
      go_big_quiet_want
      refine quiet_pure (.pointer (some ⟨b, 11, none⟩)) (fun W hW => exec_fieldO 50 _ 1 b 0 11 rfl rfl (fun w => by kernel_rfl)) ?_
      go_big_quiet_on
      simp only [Act.put, List.setIfInBounds_toArray, List.set_cons_succ, List.set_cons_zero]
      go_big_quiet_want
      refine quiet_pure (.pointer (some ⟨b, 13, none⟩)) (fun W hW => exec_fieldO 28 _ 2 b 11 13 rfl rfl (fun w => by kernel_rfl)) ?_
      go_big_quiet_on
      simp only [Act.put, List.setIfInBounds_toArray, List.set_cons_succ, List.set_cons_zero]
      go_big_quiet_want
      refine quiet_pure (.int .u32 s.seq) (fun W hW => exec_load1 22 one32 _ rfl b 13 rfl (.int .u32 s.seq) ((HJ2.out.later hW).cs 2 _ rfl)) ?_
      go_big_quiet_on
      simp only [Act.put, List.setIfInBounds_toArray, List.set_cons_succ, List.set_cons_zero]
      go_big_quiet_step (fail)
      go_big_quiet_want
      refine quiet_pure (.pointer (some ⟨b, 0, none⟩)) (fun W hW => exec_nil _ _ rfl rfl) ?_
      go_big_quiet_on
      simp only [Act.put, List.setIfInBounds_toArray, List.set_cons_succ, List.set_cons_zero]
      go_big_quiet_want
      refine quiet_pure (.pointer (some ⟨b, 0, none⟩)) (fun W hW => exec_fieldO 50 _ 0 b 0 0 rfl rfl (fun w => by kernel_rfl)) ?_
      go_big_quiet_on
      simp only [Act.put, List.setIfInBounds_toArray, List.set_cons_succ, List.set_cons_zero]
      go_big_quiet_want
      refine quiet_pure (.pointer (some ⟨b, 9, none⟩)) (fun W hW => exec_fieldO 24 _ 9 b 0 9 rfl rfl (fun w => by kernel_rfl)) ?_
      go_big_quiet_on
      simp only [Act.put, List.setIfInBounds_toArray, List.set_cons_succ, List.set_cons_zero]
      go_big_quiet_want
      refine quiet_pure (.int .u32 c.rcv) (fun W hW => exec_load1 22 one32 _ rfl b 9 rfl (.int .u32 c.rcv) ((HJ2.out.later hW).cc 9 _ rfl)) ?_
      go_big_quiet_on
      simp only [Act.put, List.setIfInBounds_toArray, List.set_cons_succ, List.set_cons_zero]
      go_big_quiet_want
      refine quiet_pure (.bool R) (fun W hW => exec_equ _ _ _ _ _ _ rfl rfl rfl HR3.out.symm) ?_
      go_big_quiet_on
      simp only [Act.put, List.setIfInBounds_toArray, List.set_cons_succ, List.set_cons_zero]
      go_big_quiet_step (fail)
      refine wpQuiet_nil ?_
      intro wq bq
      have BQ := hide (later HB2.out bq)
      clear bq
      go_wp2
      go_ret
      exact ⟨rfl, BQ.out⟩
end
/-- does a segment say nothing but once more what is acknowledged? -/
def agB (c : Ct) (s : Sg) : Bool := decide (s.ack = c.una) && (!decide (c.nxt = c.una) && (decide (s.size = 0) && decide (s.wnd = c.wnd)))
/-- has no segment that was sent later told what may be sent? -/
def latB (c : Ct) (s : Sg) : Bool := !decide (dif s.ack c.una < 0) && (decide (0 < dif s.seq c.wl1) || (decide (s.seq = c.wl1) && !decide (dif s.ack c.wl2 < 0)))
section
variable {w : World} {b : Nat} {c : Ct} {s : Sg} {gv : Value} {da : Option Addr} {dc : Nat} {v : Vd}
set_option maxHeartbeats 4000000 in
theorem isAgain_any (J : JgAt w b c s gv (.slice da s.dat.length dc) v) (hl : s.dat.length ≤ 1125899906842624) : Calls Try.prog 51 #[.pointer (some ⟨b, 0, none⟩)] w fun e w' => e = .returned (.bool (agB c s)) ∧ Below w.heap.size w w' := by
  have HJ := hide J
  obtain ⟨R, hR⟩ : ∃ R, R = agB c s := ⟨_, rfl⟩
  rw [← hR]
  have HR : Hid (R = (decide (s.ack = c.una) && (!decide (c.nxt = c.una) && (decide (s.size = 0) && decide (s.wnd = c.wnd))))) := hR
  clear J hR
  go_enter Try.func51, Try.ntmps51
  go_upto_region 1 with fail
  by_cases h1 : s.ack = c.una
  · skip
    by_cases h2 : c.nxt = c.una
    · skip
      refine region_quiet_C (fun W => Below w.heap.size w W) (by kernel_rfl) (by kernel_rfl) (later_drew _) ?_
      go_big_quiet_step (fail)
      go_big_quiet_want
      refine quiet_pure (.pointer (some ⟨b, 0, none⟩)) (fun W hW => exec_nil _ _ rfl rfl) ?_
      go_big_quiet_on
      simp only [Act.put, List.setIfInBounds_toArray, List.set_cons_succ, List.set_cons_zero]
      go_big_quiet_want
      refine quiet_pure (.pointer (some ⟨b, 11, none⟩)) (fun W hW => exec_fieldO 50 _ 1 b 0 11 rfl rfl (fun w => by kernel_rfl)) ?_
      go_big_quiet_on
      simp only [Act.put, List.setIfInBounds_toArray, List.set_cons_succ, List.set_cons_zero]
      go_big_quiet_want
      refine quiet_pure (.pointer (some ⟨b, 14, none⟩)) (fun W hW => exec_fieldO 28 _ 3 b 11 14 rfl rfl (fun w => by kernel_rfl)) ?_
      go_big_quiet_on
      simp only [Act.put, List.setIfInBounds_toArray, List.set_cons_succ, List.set_cons_zero]
      go_big_quiet_want
      refine quiet_pure (.int .u32 s.ack) (fun W hW => exec_load1 22 one32 _ rfl b 14 rfl (.int .u32 s.ack) ((HJ.out.later hW).cs 3 _ rfl)) ?_
      go_big_quiet_on
      simp only [Act.put, List.setIfInBounds_toArray, List.set_cons_succ, List.set_cons_zero]
      go_big_quiet_step (fail)
      go_big_quiet_want
      refine quiet_pure (.pointer (some ⟨b, 0, none⟩)) (fun W hW => exec_nil _ _ rfl rfl) ?_
      go_big_quiet_on
      simp only [Act.put, List.setIfInBounds_toArray, List.set_cons_succ, List.set_cons_zero]
      go_big_quiet_want
      refine quiet_pure (.pointer (some ⟨b, 0, none⟩)) (fun W hW => exec_fieldO 50 _ 0 b 0 0 rfl rfl (fun w => by kernel_rfl)) ?_
      go_big_quiet_on
      simp only [Act.put, List.setIfInBounds_toArray, List.set_cons_succ, List.set_cons_zero]
      go_big_quiet_want
      refine quiet_pure (.pointer (some ⟨b, 2, none⟩)) (fun W hW => exec_fieldO 24 _ 2 b 0 2 rfl rfl (fun w => by kernel_rfl)) ?_
      go_big_quiet_on
      simp only [Act.put, List.setIfInBounds_toArray, List.set_cons_succ, List.set_cons_zero]
      go_big_quiet_want
      refine quiet_pure (.int .u32 c.una) (fun W hW => exec_load1 22 one32 _ rfl b 2 rfl (.int .u32 c.una) ((HJ.out.later hW).cc 2 _ rfl)) ?_
      go_big_quiet_on
      simp only [Act.put, List.setIfInBounds_toArray, List.set_cons_succ, List.set_cons_zero]
      go_big_quiet_want
      refine quiet_pure (.bool true) (fun W hW => exec_equ _ _ _ _ _ _ rfl rfl rfl (decide_eq_true h1)) ?_
      go_big_quiet_on
      simp only [Act.put, List.setIfInBounds_toArray, List.set_cons_succ, List.set_cons_zero]
      go_big_quiet_step (fail)
      go_big_quiet_step (fail)
      go_big_quiet_want
      refine quiet_pure (.pointer (some ⟨b, 0, none⟩)) (fun W hW => exec_nil _ _ rfl rfl) ?_
      go_big_quiet_on
      simp only [Act.put, List.setIfInBounds_toArray, List.set_cons_succ, List.set_cons_zero]
      go_big_quiet_want
      refine quiet_pure (.pointer (some ⟨b, 0, none⟩)) (fun W hW => exec_fieldO 50 _ 0 b 0 0 rfl rfl (fun w => by kernel_rfl)) ?_
      go_big_quiet_on
      simp only [Act.put, List.setIfInBounds_toArray, List.set_cons_succ, List.set_cons_zero]
      go_big_quiet_want
      refine quiet_pure (.pointer (some ⟨b, 3, none⟩)) (fun W hW => exec_fieldO 24 _ 3 b 0 3 rfl rfl (fun w => by kernel_rfl)) ?_
      go_big_quiet_on
      simp only [Act.put, List.setIfInBounds_toArray, List.set_cons_succ, List.set_cons_zero]
      go_big_quiet_want
      refine quiet_pure (.int .u32 c.nxt) (fun W hW => exec_load1 22 one32 _ rfl b 3 rfl (.int .u32 c.nxt) ((HJ.out.later hW).cc 3 _ rfl)) ?_
      go_big_quiet_on
      simp only [Act.put, List.setIfInBounds_toArray, List.set_cons_succ, List.set_cons_zero]
      go_big_quiet_step (fail)
      go_big_quiet_want
      refine quiet_pure (.pointer (some ⟨b, 0, none⟩)) (fun W hW => exec_nil _ _ rfl rfl) ?_
      go_big_quiet_on
      simp only [Act.put, List.setIfInBounds_toArray, List.set_cons_succ, List.set_cons_zero]
      go_big_quiet_want
      refine quiet_pure (.pointer (some ⟨b, 0, none⟩)) (fun W hW => exec_fieldO 50 _ 0 b 0 0 rfl rfl (fun w => by kernel_rfl)) ?_
      go_big_quiet_on
      simp only [Act.put, List.setIfInBounds_toArray, List.set_cons_succ, List.set_cons_zero]
      go_big_quiet_want
      refine quiet_pure (.pointer (some ⟨b, 2, none⟩)) (fun W hW => exec_fieldO 24 _ 2 b 0 2 rfl rfl (fun w => by kernel_rfl)) ?_
      go_big_quiet_on
      simp only [Act.put, List.setIfInBounds_toArray, List.set_cons_succ, List.set_cons_zero]
      go_big_quiet_want
      refine quiet_pure (.int .u32 c.una) (fun W hW => exec_load1 22 one32 _ rfl b 2 rfl (.int .u32 c.una) ((HJ.out.later hW).cc 2 _ rfl)) ?_
      go_big_quiet_on
      simp only [Act.put, List.setIfInBounds_toArray, List.set_cons_succ, List.set_cons_zero]
      go_big_quiet_want
      refine quiet_pure (.bool false) (fun W hW => exec_neu _ _ _ _ _ _ rfl rfl rfl (by rw [decide_eq_true h2]; rfl)) ?_
      go_big_quiet_on
      simp only [Act.put, List.setIfInBounds_toArray, List.set_cons_succ, List.set_cons_zero]
      go_big_quiet_want
      refine quiet_pure (.bool false) (fun W hW => exec_pick _ _ _ true _ rfl rfl rfl) ?_
      go_big_quiet_on
      simp only [Act.put, List.setIfInBounds_toArray, List.set_cons_succ, List.set_cons_zero]
      go_big_quiet_step (fail)
      go_big_quiet_step (fail)
      go_big_quiet_step (fail)
      go_big_quiet_step (fail)
      go_big_quiet_step (fail)
      go_big_quiet_step (fail)
      go_big_quiet_step (fail)
      go_big_quiet_want
      refine quiet_pure (.bool false) (fun W hW => exec_pick _ _ _ false _ rfl rfl rfl) ?_
      go_big_quiet_on
      simp only [Act.put, List.setIfInBounds_toArray, List.set_cons_succ, List.set_cons_zero]
      go_big_quiet_step (fail)
      go_big_quiet_step (fail)
      go_big_quiet_step (fail)
      go_big_quiet_step (fail)
      go_big_quiet_step (fail)
      go_big_quiet_step (fail)
      go_big_quiet_step (fail)
      go_big_quiet_step (fail)
      go_big_quiet_step (fail)
      go_big_quiet_step (fail)
      go_big_quiet_step (fail)
      go_big_quiet_step (fail)
      go_big_quiet_want
      refine quiet_pure (.bool false) (fun W hW => exec_pick _ _ _ false _ rfl rfl rfl) ?_
      go_big_quiet_on
      simp only [Act.put, List.setIfInBounds_toArray, List.set_cons_succ, List.set_cons_zero]
      go_big_quiet_step (fail)
      refine wpQuiet_nil ?_
      intro wq bq
      have BQ := hide bq
      clear bq
      go_wp2
      go_ret
      exact ⟨by rw [HR.out, decide_eq_true h1, decide_eq_true h2]; simp, BQ.out⟩
    · skip
      by_cases h3 : s.size = 0
      · skip
        obtain ⟨r, hr⟩ : ∃ r, r = decide (s.wnd = c.wnd) := ⟨_, rfl⟩
        refine region_quiet_C (fun W => Below w.heap.size w W) (by kernel_rfl) (by kernel_rfl) (later_drew _) ?_
        go_big_quiet_step (fail)
        go_big_quiet_want
        refine quiet_pure (.pointer (some ⟨b, 0, none⟩)) (fun W hW => exec_nil _ _ rfl rfl) ?_
        go_big_quiet_on
        simp only [Act.put, List.setIfInBounds_toArray, List.set_cons_succ, List.set_cons_zero]
        go_big_quiet_want
        refine quiet_pure (.pointer (some ⟨b, 11, none⟩)) (fun W hW => exec_fieldO 50 _ 1 b 0 11 rfl rfl (fun w => by kernel_rfl)) ?_
        go_big_quiet_on
        simp only [Act.put, List.setIfInBounds_toArray, List.set_cons_succ, List.set_cons_zero]
        go_big_quiet_want
        refine quiet_pure (.pointer (some ⟨b, 14, none⟩)) (fun W hW => exec_fieldO 28 _ 3 b 11 14 rfl rfl (fun w => by kernel_rfl)) ?_
        go_big_quiet_on
        simp only [Act.put, List.setIfInBounds_toArray, List.set_cons_succ, List.set_cons_zero]
        go_big_quiet_want
        refine quiet_pure (.int .u32 s.ack) (fun W hW => exec_load1 22 one32 _ rfl b 14 rfl (.int .u32 s.ack) ((HJ.out.later hW).cs 3 _ rfl)) ?_
        go_big_quiet_on
        simp only [Act.put, List.setIfInBounds_toArray, List.set_cons_succ, List.set_cons_zero]
        go_big_quiet_step (fail)
        go_big_quiet_want
        refine quiet_pure (.pointer (some ⟨b, 0, none⟩)) (fun W hW => exec_nil _ _ rfl rfl) ?_
        go_big_quiet_on
        simp only [Act.put, List.setIfInBounds_toArray, List.set_cons_succ, List.set_cons_zero]
        go_big_quiet_want
        refine quiet_pure (.pointer (some ⟨b, 0, none⟩)) (fun W hW => exec_fieldO 50 _ 0 b 0 0 rfl rfl (fun w => by kernel_rfl)) ?_
        go_big_quiet_on
        simp only [Act.put, List.setIfInBounds_toArray, List.set_cons_succ, List.set_cons_zero]
        go_big_quiet_want
        refine quiet_pure (.pointer (some ⟨b, 2, none⟩)) (fun W hW => exec_fieldO 24 _ 2 b 0 2 rfl rfl (fun w => by kernel_rfl)) ?_
        go_big_quiet_on
        simp only [Act.put, List.setIfInBounds_toArray, List.set_cons_succ, List.set_cons_zero]
        go_big_quiet_want
        refine quiet_pure (.int .u32 c.una) (fun W hW => exec_load1 22 one32 _ rfl b 2 rfl (.int .u32 c.una) ((HJ.out.later hW).cc 2 _ rfl)) ?_
        go_big_quiet_on
        simp only [Act.put, List.setIfInBounds_toArray, List.set_cons_succ, List.set_cons_zero]
        go_big_quiet_want
        refine quiet_pure (.bool true) (fun W hW => exec_equ _ _ _ _ _ _ rfl rfl rfl (decide_eq_true h1)) ?_
        go_big_quiet_on
        simp only [Act.put, List.setIfInBounds_toArray, List.set_cons_succ, List.set_cons_zero]
        go_big_quiet_step (fail)
        go_big_quiet_step (fail)
        go_big_quiet_want
        refine quiet_pure (.pointer (some ⟨b, 0, none⟩)) (fun W hW => exec_nil _ _ rfl rfl) ?_
        go_big_quiet_on
        simp only [Act.put, List.setIfInBounds_toArray, List.set_cons_succ, List.set_cons_zero]
        go_big_quiet_want
        refine quiet_pure (.pointer (some ⟨b, 0, none⟩)) (fun W hW => exec_fieldO 50 _ 0 b 0 0 rfl rfl (fun w => by kernel_rfl)) ?_
        go_big_quiet_on
        simp only [Act.put, List.setIfInBounds_toArray, List.set_cons_succ, List.set_cons_zero]
        go_big_quiet_want
        refine quiet_pure (.pointer (some ⟨b, 3, none⟩)) (fun W hW => exec_fieldO 24 _ 3 b 0 3 rfl rfl (fun w => by kernel_rfl)) ?_
        go_big_quiet_on
        simp only [Act.put, List.setIfInBounds_toArray, List.set_cons_succ, List.set_cons_zero]
        go_big_quiet_want
        refine quiet_pure (.int .u32 c.nxt) (fun W hW => exec_load1 22 one32 _ rfl b 3 rfl (.int .u32 c.nxt) ((HJ.out.later hW).cc 3 _ rfl)) ?_
        go_big_quiet_on
        simp only [Act.put, List.setIfInBounds_toArray, List.set_cons_succ, List.set_cons_zero]
        go_big_quiet_step (fail)
        go_big_quiet_want
        refine quiet_pure (.pointer (some ⟨b, 0, none⟩)) (fun W hW => exec_nil _ _ rfl rfl) ?_
        go_big_quiet_on
        simp only [Act.put, List.setIfInBounds_toArray, List.set_cons_succ, List.set_cons_zero]
        go_big_quiet_want
        refine quiet_pure (.pointer (some ⟨b, 0, none⟩)) (fun W hW => exec_fieldO 50 _ 0 b 0 0 rfl rfl (fun w => by kernel_rfl)) ?_
        go_big_quiet_on
        simp only [Act.put, List.setIfInBounds_toArray, List.set_cons_succ, List.set_cons_zero]
        go_big_quiet_want
        refine quiet_pure (.pointer (some ⟨b, 2, none⟩)) (fun W hW => exec_fieldO 24 _ 2 b 0 2 rfl rfl (fun w => by kernel_rfl)) ?_
        go_big_quiet_on
        simp only [Act.put, List.setIfInBounds_toArray, List.set_cons_succ, List.set_cons_zero]
        go_big_quiet_want
        refine quiet_pure (.int .u32 c.una) (fun W hW => exec_load1 22 one32 _ rfl b 2 rfl (.int .u32 c.una) ((HJ.out.later hW).cc 2 _ rfl)) ?_
        go_big_quiet_on
        simp only [Act.put, List.setIfInBounds_toArray, List.set_cons_succ, List.set_cons_zero]
        go_big_quiet_want
        refine quiet_pure (.bool true) (fun W hW => exec_neu _ _ _ _ _ _ rfl rfl rfl (by rw [decide_eq_false h2]; rfl)) ?_
        go_big_quiet_on
        simp only [Act.put, List.setIfInBounds_toArray, List.set_cons_succ, List.set_cons_zero]
        go_big_quiet_want
        refine quiet_pure (.bool true) (fun W hW => exec_pick _ _ _ true _ rfl rfl rfl) ?_
        go_big_quiet_on
        simp only [Act.put, List.setIfInBounds_toArray, List.set_cons_succ, List.set_cons_zero]
        go_big_quiet_step (fail)
        go_big_quiet_step (fail)
        go_big_quiet_want
        refine quiet_pure (.pointer (some ⟨b, 0, none⟩)) (fun W hW => exec_nil _ _ rfl rfl) ?_
        go_big_quiet_on
        simp only [Act.put, List.setIfInBounds_toArray, List.set_cons_succ, List.set_cons_zero]
        go_big_quiet_want
        refine quiet_pure (.pointer (some ⟨b, 11, none⟩)) (fun W hW => exec_fieldO 50 _ 1 b 0 11 rfl rfl (fun w => by kernel_rfl)) ?_
        go_big_quiet_on
        simp only [Act.put, List.setIfInBounds_toArray, List.set_cons_succ, List.set_cons_zero]
        go_big_quiet_want
        refine quiet_pure (.agg (s.cells gv (.slice da s.dat.length dc)).toArray) (fun W hW => exec_loadA 28 10 aggSg sizSg _ rfl b 11 rfl (s.cells gv (.slice da s.dat.length dc)) rfl ((HJ.out.later hW).cs)) ?_
        go_big_quiet_on
        simp only [Act.put, List.setIfInBounds_toArray, List.set_cons_succ, List.set_cons_zero]
        go_big_quiet_want
        refine quiet_call 55 #[.agg (s.cells gv (.slice da s.dat.length dc)).toArray] (.int .i64 s.size) (fun _ => by simp [Act.eval, go_sem]) (fun W hW => (Size_any s gv da dc W hl).mono fun e w' h => ⟨h.1, later hW h.2⟩) ?_
        go_big_quiet_on
        simp only [Act.put, List.setIfInBounds_toArray, List.set_cons_succ, List.set_cons_zero]
        go_big_quiet_want
        refine quiet_pure (.bool true) (fun W hW => exec_eqi _ _ _ _ _ _ rfl rfl rfl (decide_eq_true h3)) ?_
        go_big_quiet_on
        simp only [Act.put, List.setIfInBounds_toArray, List.set_cons_succ, List.set_cons_zero]
        go_big_quiet_want
        refine quiet_pure (.bool true) (fun W hW => exec_pick _ _ _ true _ rfl rfl rfl) ?_
        go_big_quiet_on
        simp only [Act.put, List.setIfInBounds_toArray, List.set_cons_succ, List.set_cons_zero]
        go_big_quiet_step (fail)
        go_big_quiet_step (fail)
        go_big_quiet_want
        refine quiet_pure (.pointer (some ⟨b, 0, none⟩)) (fun W hW => exec_nil _ _ rfl rfl) ?_
        go_big_quiet_on
        simp only [Act.put, List.setIfInBounds_toArray, List.set_cons_succ, List.set_cons_zero]
        go_big_quiet_want
        refine quiet_pure (.pointer (some ⟨b, 11, none⟩)) (fun W hW => exec_fieldO 50 _ 1 b 0 11 rfl rfl (fun w => by kernel_rfl)) ?_
        go_big_quiet_on
        simp only [Act.put, List.setIfInBounds_toArray, List.set_cons_succ, List.set_cons_zero]
        go_big_quiet_want
        refine quiet_pure (.pointer (some ⟨b, 16, none⟩)) (fun W hW => exec_fieldO 28 _ 5 b 11 16 rfl rfl (fun w => by kernel_rfl)) ?_
        go_big_quiet_on
        simp only [Act.put, List.setIfInBounds_toArray, List.set_cons_succ, List.set_cons_zero]
        go_big_quiet_want
        refine quiet_pure (.int .i64 s.wnd) (fun W hW => exec_load1 3 one1 _ rfl b 16 rfl (.int .i64 s.wnd) ((HJ.out.later hW).cs 5 _ rfl)) ?_
        go_big_quiet_on
        simp only [Act.put, List.setIfInBounds_toArray, List.set_cons_succ, List.set_cons_zero]
        go_big_quiet_step (fail)
        go_big_quiet_want
        refine quiet_pure (.pointer (some ⟨b, 0, none⟩)) (fun W hW => exec_nil _ _ rfl rfl) ?_
        go_big_quiet_on
        simp only [Act.put, List.setIfInBounds_toArray, List.set_cons_succ, List.set_cons_zero]
        go_big_quiet_want
        refine quiet_pure (.pointer (some ⟨b, 0, none⟩)) (fun W hW => exec_fieldO 50 _ 0 b 0 0 rfl rfl (fun w => by kernel_rfl)) ?_
        go_big_quiet_on
        simp only [Act.put, List.setIfInBounds_toArray, List.set_cons_succ, List.set_cons_zero]
        go_big_quiet_want
        refine quiet_pure (.pointer (some ⟨b, 5, none⟩)) (fun W hW => exec_fieldO 24 _ 5 b 0 5 rfl rfl (fun w => by kernel_rfl)) ?_
        go_big_quiet_on
        simp only [Act.put, List.setIfInBounds_toArray, List.set_cons_succ, List.set_cons_zero]
        go_big_quiet_want
        refine quiet_pure (.int .i64 c.wnd) (fun W hW => exec_load1 3 one1 _ rfl b 5 rfl (.int .i64 c.wnd) ((HJ.out.later hW).cc 5 _ rfl)) ?_
        go_big_quiet_on
        simp only [Act.put, List.setIfInBounds_toArray, List.set_cons_succ, List.set_cons_zero]
        go_big_quiet_want
        refine quiet_pure (.bool r) (fun W hW => exec_eqi _ _ _ _ _ _ rfl rfl rfl (hr.symm)) ?_
        go_big_quiet_on
        simp only [Act.put, List.setIfInBounds_toArray, List.set_cons_succ, List.set_cons_zero]
        go_big_quiet_want
        refine quiet_pure (.bool r) (fun W hW => exec_pick _ _ _ true _ rfl rfl rfl) ?_
        go_big_quiet_on
        simp only [Act.put, List.setIfInBounds_toArray, List.set_cons_succ, List.set_cons_zero]
        go_big_quiet_step (fail)
        refine wpQuiet_nil ?_
        intro wq bq
        have BQ := hide bq
        clear bq
        go_wp2
        go_ret
        exact ⟨by rw [HR.out, decide_eq_true h1, decide_eq_false h2, decide_eq_true h3, ← hr]; simp, BQ.out⟩
      · skip
        refine region_quiet_C (fun W => Below w.heap.size w W) (by kernel_rfl) (by kernel_rfl) (later_drew _) ?_
        go_big_quiet_step (fail)
        go_big_quiet_want
        refine quiet_pure (.pointer (some ⟨b, 0, none⟩)) (fun W hW => exec_nil _ _ rfl rfl) ?_
        go_big_quiet_on
        simp only [Act.put, List.setIfInBounds_toArray, List.set_cons_succ, List.set_cons_zero]
        go_big_quiet_want
        refine quiet_pure (.pointer (some ⟨b, 11, none⟩)) (fun W hW => exec_fieldO 50 _ 1 b 0 11 rfl rfl (fun w => by kernel_rfl)) ?_
        go_big_quiet_on
        simp only [Act.put, List.setIfInBounds_toArray, List.set_cons_succ, List.set_cons_zero]
        go_big_quiet_want
        refine quiet_pure (.pointer (some ⟨b, 14, none⟩)) (fun W hW => exec_fieldO 28 _ 3 b 11 14 rfl rfl (fun w => by kernel_rfl)) ?_
        go_big_quiet_on
        simp only [Act.put, List.setIfInBounds_toArray, List.set_cons_succ, List.set_cons_zero]
        go_big_quiet_want
        refine quiet_pure (.int .u32 s.ack) (fun W hW => exec_load1 22 one32 _ rfl b 14 rfl (.int .u32 s.ack) ((HJ.out.later hW).cs 3 _ rfl)) ?_
        go_big_quiet_on
        simp only [Act.put, List.setIfInBounds_toArray, List.set_cons_succ, List.set_cons_zero]
        go_big_quiet_step (fail)
        go_big_quiet_want
        refine quiet_pure (.pointer (some ⟨b, 0, none⟩)) (fun W hW => exec_nil _ _ rfl rfl) ?_
        go_big_quiet_on
        simp only [Act.put, List.setIfInBounds_toArray, List.set_cons_succ, List.set_cons_zero]
        go_big_quiet_want
        refine quiet_pure (.pointer (some ⟨b, 0, none⟩)) (fun W hW => exec_fieldO 50 _ 0 b 0 0 rfl rfl (fun w => by kernel_rfl)) ?_
        go_big_quiet_on
        simp only [Act.put, List.setIfInBounds_toArray, List.set_cons_succ, List.set_cons_zero]
        go_big_quiet_want
        refine quiet_pure (.pointer (some ⟨b, 2, none⟩)) (fun W hW => exec_fieldO 24 _ 2 b 0 2 rfl rfl (fun w => by kernel_rfl)) ?_
        go_big_quiet_on
        simp only [Act.put, List.setIfInBounds_toArray, List.set_cons_succ, List.set_cons_zero]
        go_big_quiet_want
        refine quiet_pure (.int .u32 c.una) (fun W hW => exec_load1 22 one32 _ rfl b 2 rfl (.int .u32 c.una) ((HJ.out.later hW).cc 2 _ rfl)) ?_
        go_big_quiet_on
        simp only [Act.put, List.setIfInBounds_toArray, List.set_cons_succ, List.set_cons_zero]
        go_big_quiet_want
        refine quiet_pure (.bool true) (fun W hW => exec_equ _ _ _ _ _ _ rfl rfl rfl (decide_eq_true h1)) ?_
        go_big_quiet_on
        simp only [Act.put, List.setIfInBounds_toArray, List.set_cons_succ, List.set_cons_zero]
        go_big_quiet_step (fail)
        go_big_quiet_step (fail)
        go_big_quiet_want
        refine quiet_pure (.pointer (some ⟨b, 0, none⟩)) (fun W hW => exec_nil _ _ rfl rfl) ?_
        go_big_quiet_on
        simp only [Act.put, List.setIfInBounds_toArray, List.set_cons_succ, List.set_cons_zero]
        go_big_quiet_want
        refine quiet_pure (.pointer (some ⟨b, 0, none⟩)) (fun W hW => exec_fieldO 50 _ 0 b 0 0 rfl rfl (fun w => by kernel_rfl)) ?_
        go_big_quiet_on
        simp only [Act.put, List.setIfInBounds_toArray, List.set_cons_succ, List.set_cons_zero]
        go_big_quiet_want
        refine quiet_pure (.pointer (some ⟨b, 3, none⟩)) (fun W hW => exec_fieldO 24 _ 3 b 0 3 rfl rfl (fun w => by kernel_rfl)) ?_
        go_big_quiet_on
        simp only [Act.put, List.setIfInBounds_toArray, List.set_cons_succ, List.set_cons_zero]
        go_big_quiet_want
        refine quiet_pure (.int .u32 c.nxt) (fun W hW => exec_load1 22 one32 _ rfl b 3 rfl (.int .u32 c.nxt) ((HJ.out.later hW).cc 3 _ rfl)) ?_
        go_big_quiet_on
        simp only [Act.put, List.setIfInBounds_toArray, List.set_cons_succ, List.set_cons_zero]
        go_big_quiet_step (fail)
        go_big_quiet_want
        refine quiet_pure (.pointer (some ⟨b, 0, none⟩)) (fun W hW => exec_nil _ _ rfl rfl) ?_
        go_big_quiet_on
        simp only [Act.put, List.setIfInBounds_toArray, List.set_cons_succ, List.set_cons_zero]
        go_big_quiet_want
        refine quiet_pure (.pointer (some ⟨b, 0, none⟩)) (fun W hW => exec_fieldO 50 _ 0 b 0 0 rfl rfl (fun w => by kernel_rfl)) ?_
        go_big_quiet_on
        simp only [Act.put, List.setIfInBounds_toArray, List.set_cons_succ, List.set_cons_zero]
        go_big_quiet_want
        refine quiet_pure (.pointer (some ⟨b, 2, none⟩)) (fun W hW => exec_fieldO 24 _ 2 b 0 2 rfl rfl (fun w => by kernel_rfl)) ?_
        go_big_quiet_on
        simp only [Act.put, List.setIfInBounds_toArray, List.set_cons_succ, List.set_cons_zero]
        go_big_quiet_want
        refine quiet_pure (.int .u32 c.una) (fun W hW => exec_load1 22 one32 _ rfl b 2 rfl (.int .u32 c.una) ((HJ.out.later hW).cc 2 _ rfl)) ?_
        go_big_quiet_on
        simp only [Act.put, List.setIfInBounds_toArray, List.set_cons_succ, List.set_cons_zero]
        go_big_quiet_want
        refine quiet_pure (.bool true) (fun W hW => exec_neu _ _ _ _ _ _ rfl rfl rfl (by rw [decide_eq_false h2]; rfl)) ?_
        go_big_quiet_on
        simp only [Act.put, List.setIfInBounds_toArray, List.set_cons_succ, List.set_cons_zero]
        go_big_quiet_want
        refine quiet_pure (.bool true) (fun W hW => exec_pick _ _ _ true _ rfl rfl rfl) ?_
        go_big_quiet_on
        simp only [Act.put, List.setIfInBounds_toArray, List.set_cons_succ, List.set_cons_zero]
        go_big_quiet_step (fail)
        go_big_quiet_step (fail)
        go_big_quiet_want
        refine quiet_pure (.pointer (some ⟨b, 0, none⟩)) (fun W hW => exec_nil _ _ rfl rfl) ?_
        go_big_quiet_on
        simp only [Act.put, List.setIfInBounds_toArray, List.set_cons_succ, List.set_cons_zero]
        go_big_quiet_want
        refine quiet_pure (.pointer (some ⟨b, 11, none⟩)) (fun W hW => exec_fieldO 50 _ 1 b 0 11 rfl rfl (fun w => by kernel_rfl)) ?_
        go_big_quiet_on
        simp only [Act.put, List.setIfInBounds_toArray, List.set_cons_succ, List.set_cons_zero]
        go_big_quiet_want
        refine quiet_pure (.agg (s.cells gv (.slice da s.dat.length dc)).toArray) (fun W hW => exec_loadA 28 10 aggSg sizSg _ rfl b 11 rfl (s.cells gv (.slice da s.dat.length dc)) rfl ((HJ.out.later hW).cs)) ?_
        go_big_quiet_on
        simp only [Act.put, List.setIfInBounds_toArray, List.set_cons_succ, List.set_cons_zero]
        go_big_quiet_want
        refine quiet_call 55 #[.agg (s.cells gv (.slice da s.dat.length dc)).toArray] (.int .i64 s.size) (fun _ => by simp [Act.eval, go_sem]) (fun W hW => (Size_any s gv da dc W hl).mono fun e w' h => ⟨h.1, later hW h.2⟩) ?_
        go_big_quiet_on
        simp only [Act.put, List.setIfInBounds_toArray, List.set_cons_succ, List.set_cons_zero]
        go_big_quiet_want
        refine quiet_pure (.bool false) (fun W hW => exec_eqi _ _ _ _ _ _ rfl rfl rfl (decide_eq_false h3)) ?_
        go_big_quiet_on
        simp only [Act.put, List.setIfInBounds_toArray, List.set_cons_succ, List.set_cons_zero]
        go_big_quiet_want
        refine quiet_pure (.bool false) (fun W hW => exec_pick _ _ _ true _ rfl rfl rfl) ?_
        go_big_quiet_on
        simp only [Act.put, List.setIfInBounds_toArray, List.set_cons_succ, List.set_cons_zero]
        go_big_quiet_step (fail)
        go_big_quiet_step (fail)
        go_big_quiet_step (fail)
        go_big_quiet_step (fail)
        go_big_quiet_step (fail)
        go_big_quiet_step (fail)
        go_big_quiet_step (fail)
        go_big_quiet_step (fail)
        go_big_quiet_step (fail)
        go_big_quiet_step (fail)
        go_big_quiet_step (fail)
        go_big_quiet_step (fail)
        go_big_quiet_want
        refine quiet_pure (.bool false) (fun W hW => exec_pick _ _ _ false _ rfl rfl rfl) ?_
        go_big_quiet_on
        simp only [Act.put, List.setIfInBounds_toArray, List.set_cons_succ, List.set_cons_zero]
        go_big_quiet_step (fail)
        refine wpQuiet_nil ?_
        intro wq bq
        have BQ := hide bq
        clear bq
        go_wp2
        go_ret
        exact ⟨by rw [HR.out, decide_eq_true h1, decide_eq_false h2, decide_eq_false h3]; simp, BQ.out⟩
  · skip
    refine region_quiet_C (fun W => Below w.heap.size w W) (by kernel_rfl) (by kernel_rfl) (later_drew _) ?_
    go_big_quiet_step (fail)
    go_big_quiet_want
    refine quiet_pure (.pointer (some ⟨b, 0, none⟩)) (fun W hW => exec_nil _ _ rfl rfl) ?_
    go_big_quiet_on
    simp only [Act.put, List.setIfInBounds_toArray, List.set_cons_succ, List.set_cons_zero]
    go_big_quiet_want
    refine quiet_pure (.pointer (some ⟨b, 11, none⟩)) (fun W hW => exec_fieldO 50 _ 1 b 0 11 rfl rfl (fun w => by kernel_rfl)) ?_
    go_big_quiet_on
    simp only [Act.put, List.setIfInBounds_toArray, List.set_cons_succ, List.set_cons_zero]
    go_big_quiet_want
    refine quiet_pure (.pointer (some ⟨b, 14, none⟩)) (fun W hW => exec_fieldO 28 _ 3 b 11 14 rfl rfl (fun w => by kernel_rfl)) ?_
    go_big_quiet_on
    simp only [Act.put, List.setIfInBounds_toArray, List.set_cons_succ, List.set_cons_zero]
    go_big_quiet_want
    refine quiet_pure (.int .u32 s.ack) (fun W hW => exec_load1 22 one32 _ rfl b 14 rfl (.int .u32 s.ack) ((HJ.out.later hW).cs 3 _ rfl)) ?_
    go_big_quiet_on
    simp only [Act.put, List.setIfInBounds_toArray, List.set_cons_succ, List.set_cons_zero]
    go_big_quiet_step (fail)
    go_big_quiet_want
    refine quiet_pure (.pointer (some ⟨b, 0, none⟩)) (fun W hW => exec_nil _ _ rfl rfl) ?_
    go_big_quiet_on
    simp only [Act.put, List.setIfInBounds_toArray, List.set_cons_succ, List.set_cons_zero]
    go_big_quiet_want
    refine quiet_pure (.pointer (some ⟨b, 0, none⟩)) (fun W hW => exec_fieldO 50 _ 0 b 0 0 rfl rfl (fun w => by kernel_rfl)) ?_
    go_big_quiet_on
    simp only [Act.put, List.setIfInBounds_toArray, List.set_cons_succ, List.set_cons_zero]
    go_big_quiet_want
    refine quiet_pure (.pointer (some ⟨b, 2, none⟩)) (fun W hW => exec_fieldO 24 _ 2 b 0 2 rfl rfl (fun w => by kernel_rfl)) ?_
    go_big_quiet_on
    simp only [Act.put, List.setIfInBounds_toArray, List.set_cons_succ, List.set_cons_zero]
    go_big_quiet_want
    refine quiet_pure (.int .u32 c.una) (fun W hW => exec_load1 22 one32 _ rfl b 2 rfl (.int .u32 c.una) ((HJ.out.later hW).cc 2 _ rfl)) ?_
    go_big_quiet_on
    simp only [Act.put, List.setIfInBounds_toArray, List.set_cons_succ, List.set_cons_zero]
    go_big_quiet_want
    refine quiet_pure (.bool false) (fun W hW => exec_equ _ _ _ _ _ _ rfl rfl rfl (decide_eq_false h1)) ?_
    go_big_quiet_on
    simp only [Act.put, List.setIfInBounds_toArray, List.set_cons_succ, List.set_cons_zero]
    go_big_quiet_step (fail)
    go_big_quiet_step (fail)
    go_big_quiet_step (fail)
    go_big_quiet_step (fail)
    go_big_quiet_step (fail)
    go_big_quiet_step (fail)
    go_big_quiet_step (fail)
    go_big_quiet_step (fail)
    go_big_quiet_step (fail)
    go_big_quiet_step (fail)
    go_big_quiet_step (fail)
    go_big_quiet_step (fail)
    go_big_quiet_want
    refine quiet_pure (.bool false) (fun W hW => exec_pick _ _ _ false _ rfl rfl rfl) ?_
    go_big_quiet_on
    simp only [Act.put, List.setIfInBounds_toArray, List.set_cons_succ, List.set_cons_zero]
    go_big_quiet_step (fail)
    go_big_quiet_step (fail)
    go_big_quiet_step (fail)
    go_big_quiet_step (fail)
    go_big_quiet_step (fail)
    go_big_quiet_step (fail)
    go_big_quiet_step (fail)
    go_big_quiet_want
    refine quiet_pure (.bool false) (fun W hW => exec_pick _ _ _ false _ rfl rfl rfl) ?_
    go_big_quiet_on
    simp only [Act.put, List.setIfInBounds_toArray, List.set_cons_succ, List.set_cons_zero]
    go_big_quiet_step (fail)
    go_big_quiet_step (fail)
    go_big_quiet_step (fail)
    go_big_quiet_step (fail)
    go_big_quiet_step (fail)
    go_big_quiet_step (fail)
    go_big_quiet_step (fail)
    go_big_quiet_step (fail)
    go_big_quiet_step (fail)
    go_big_quiet_step (fail)
    go_big_quiet_step (fail)
    go_big_quiet_step (fail)
    go_big_quiet_want
    refine quiet_pure (.bool false) (fun W hW => exec_pick _ _ _ false _ rfl rfl rfl) ?_
    go_big_quiet_on
    simp only [Act.put, List.setIfInBounds_toArray, List.set_cons_succ, List.set_cons_zero]
    go_big_quiet_step (fail)
    refine wpQuiet_nil ?_
    intro wq bq
    have BQ := hide bq
    clear bq
    go_wp2
    go_ret
    exact ⟨by rw [HR.out, decide_eq_false h1]; simp, BQ.out⟩
end
section
variable {w : World} {b : Nat} {c : Ct} {s : Sg} {gv dv : Value} {v : Vd}
set_option maxHeartbeats 4000000 in
theorem isLatest_any (J : JgAt w b c s gv dv v) : Calls Try.prog 52 #[.pointer (some ⟨b, 0, none⟩)] w fun e w' => e = .returned (.bool (latB c s)) ∧ Below w.heap.size w w' := by
  have HJ := hide J
  obtain ⟨R, hR⟩ : ∃ R, R = latB c s := ⟨_, rfl⟩
  rw [← hR]
  obtain ⟨a0, ha0⟩ : ∃ a0, a0 = decide (dif s.ack c.una < 0) := ⟨_, rfl⟩
  obtain ⟨a1, ha1⟩ : ∃ a1, a1 = decide (0 < dif s.seq c.wl1) := ⟨_, rfl⟩
  obtain ⟨a2, ha2⟩ : ∃ a2, a2 = decide (s.seq = c.wl1) := ⟨_, rfl⟩
  obtain ⟨a3, ha3⟩ : ∃ a3, a3 = decide (dif s.ack c.wl2 < 0) := ⟨_, rfl⟩
  have HR : Hid (R = (!a0 && (a1 || (a2 && !a3)))) := by rw [hR, ha0, ha1, ha2, ha3]; exact rfl
  have H0 := hide ha0
  have H1 := hide ha1
  have H2 := hide ha2
  have H3 := hide ha3
  clear J hR ha0 ha1 ha2 ha3
  go_enter Try.func52, Try.ntmps52
  go_upto_region 1 with fail
  refine region_quiet_C (fun W => Below w.heap.size w W) (by kernel_rfl) (by kernel_rfl) (later_drew _) ?_
  go_big_quiet_step (fail)
  go_big_quiet_want
  refine quiet_pure (.pointer (some ⟨b, 0, none⟩)) (fun W hW => exec_nil _ _ rfl rfl) ?_
  go_big_quiet_on
  simp only [Act.put, List.setIfInBounds_toArray, List.set_cons_succ, List.set_cons_zero]
  go_big_quiet_want
  refine quiet_pure (.pointer (some ⟨b, 11, none⟩)) (fun W hW => exec_fieldO 50 _ 1 b 0 11 rfl rfl (fun w => by kernel_rfl)) ?_
  go_big_quiet_on
  simp only [Act.put, List.setIfInBounds_toArray, List.set_cons_succ, List.set_cons_zero]
  go_big_quiet_want
  refine quiet_pure (.pointer (some ⟨b, 14, none⟩)) (fun W hW => exec_fieldO 28 _ 3 b 11 14 rfl rfl (fun w => by kernel_rfl)) ?_
  go_big_quiet_on
  simp only [Act.put, List.setIfInBounds_toArray, List.set_cons_succ, List.set_cons_zero]
  go_big_quiet_want
  refine quiet_pure (.int .u32 s.ack) (fun W hW => exec_load1 22 one32 _ rfl b 14 rfl (.int .u32 s.ack) ((HJ.out.later hW).cs 3 _ rfl)) ?_
  go_big_quiet_on
  simp only [Act.put, List.setIfInBounds_toArray, List.set_cons_succ, List.set_cons_zero]
  go_big_quiet_step (fail)
  go_big_quiet_want
  refine quiet_pure (.pointer (some ⟨b, 0, none⟩)) (fun W hW => exec_nil _ _ rfl rfl) ?_
  go_big_quiet_on
  simp only [Act.put, List.setIfInBounds_toArray, List.set_cons_succ, List.set_cons_zero]
  go_big_quiet_want
  refine quiet_pure (.pointer (some ⟨b, 0, none⟩)) (fun W hW => exec_fieldO 50 _ 0 b 0 0 rfl rfl (fun w => by kernel_rfl)) ?_
  go_big_quiet_on
  simp only [Act.put, List.setIfInBounds_toArray, List.set_cons_succ, List.set_cons_zero]
  go_big_quiet_want
  refine quiet_pure (.pointer (some ⟨b, 2, none⟩)) (fun W hW => exec_fieldO 24 _ 2 b 0 2 rfl rfl (fun w => by kernel_rfl)) ?_
  go_big_quiet_on
  simp only [Act.put, List.setIfInBounds_toArray, List.set_cons_succ, List.set_cons_zero]
  go_big_quiet_want
  refine quiet_pure (.int .u32 c.una) (fun W hW => exec_load1 22 one32 _ rfl b 2 rfl (.int .u32 c.una) ((HJ.out.later hW).cc 2 _ rfl)) ?_
  go_big_quiet_on
  simp only [Act.put, List.setIfInBounds_toArray, List.set_cons_succ, List.set_cons_zero]
  go_big_quiet_want
  refine quiet_call 58 #[.int .u32 s.ack, .int .u32 c.una] (.bool a0) (fun _ => by simp [Act.eval, go_sem]) (fun W hW => (isAhead_any s.ack c.una W).mono fun e w' h => ⟨by rw [H0.out]; exact h.1, by rw [h.2]; exact hW⟩) ?_
  go_big_quiet_on
  simp only [Act.put, List.setIfInBounds_toArray, List.set_cons_succ, List.set_cons_zero]
  refine wpQuiet_nil ?_
  intro wq bq
  have BQ := hide bq
  clear bq
  cases a0 with
  | true =>
    go_wp2
    go_ret
    exact ⟨by rw [HR.out]; rfl, BQ.out⟩
  | false =>
    have HJ2 := hide (HJ.out.later BQ.out)
    go_upto_region 3 with fail
    cases a1 with
    | true =>
      refine region_quiet_C (fun W => Below wq.heap.size wq W) (by kernel_rfl) (by kernel_rfl) (later_drew _) ?_
      go_big_quiet_step (fail)
      go_big_quiet_want
      refine quiet_pure (.pointer (some ⟨b, 0, none⟩)) (fun W hW => exec_nil _ _ rfl rfl) ?_
      go_big_quiet_on
      simp only [Act.put, List.setIfInBounds_toArray, List.set_cons_succ, List.set_cons_zero]
      go_big_quiet_want
      refine quiet_pure (.pointer (some ⟨b, 11, none⟩)) (fun W hW => exec_fieldO 50 _ 1 b 0 11 rfl rfl (fun w => by kernel_rfl)) ?_
      go_big_quiet_on
      simp only [Act.put, List.setIfInBounds_toArray, List.set_cons_succ, List.set_cons_zero]
      go_big_quiet_want
      refine quiet_pure (.pointer (some ⟨b, 13, none⟩)) (fun W hW => exec_fieldO 28 _ 2 b 11 13 rfl rfl (fun w => by kernel_rfl)) ?_
      go_big_quiet_on
      simp only [Act.put, List.setIfInBounds_toArray, List.set_cons_succ, List.set_cons_zero]
      go_big_quiet_want
      refine quiet_pure (.int .u32 s.seq) (fun W hW => exec_load1 22 one32 _ rfl b 13 rfl (.int .u32 s.seq) ((HJ2.out.later hW).cs 2 _ rfl)) ?_
      go_big_quiet_on
      simp only [Act.put, List.setIfInBounds_toArray, List.set_cons_succ, List.set_cons_zero]
      go_big_quiet_step (fail)
      go_big_quiet_want
      refine quiet_pure (.pointer (some ⟨b, 0, none⟩)) (fun W hW => exec_nil _ _ rfl rfl) ?_
      go_big_quiet_on
      simp only [Act.put, List.setIfInBounds_toArray, List.set_cons_succ, List.set_cons_zero]
      go_big_quiet_want
      refine quiet_pure (.pointer (some ⟨b, 0, none⟩)) (fun W hW => exec_fieldO 50 _ 0 b 0 0 rfl rfl (fun w => by kernel_rfl)) ?_
      go_big_quiet_on
      simp only [Act.put, List.setIfInBounds_toArray, List.set_cons_succ, List.set_cons_zero]
      go_big_quiet_want
      refine quiet_pure (.pointer (some ⟨b, 6, none⟩)) (fun W hW => exec_fieldO 24 _ 6 b 0 6 rfl rfl (fun w => by kernel_rfl)) ?_
      go_big_quiet_on
      simp only [Act.put, List.setIfInBounds_toArray, List.set_cons_succ, List.set_cons_zero]
      go_big_quiet_want
      refine quiet_pure (.int .u32 c.wl1) (fun W hW => exec_load1 22 one32 _ rfl b 6 rfl (.int .u32 c.wl1) ((HJ2.out.later hW).cc 6 _ rfl)) ?_
      go_big_quiet_on
      simp only [Act.put, List.setIfInBounds_toArray, List.set_cons_succ, List.set_cons_zero]
      go_big_quiet_want
      refine quiet_call 34 #[.int .u32 s.seq, .int .u32 c.wl1] (.bool true) (fun _ => by simp [Act.eval, go_sem]) (fun W hW => (isBehind_any s.seq c.wl1 W).mono fun e w' h => ⟨by rw [H1.out]; exact h.1, by rw [h.2]; exact hW⟩) ?_
      go_big_quiet_on
      simp only [Act.put, List.setIfInBounds_toArray, List.set_cons_succ, List.set_cons_zero]
      go_big_quiet_step (fail)
      go_big_quiet_step (fail)
      go_big_quiet_step (fail)
      go_big_quiet_step (fail)
      go_big_quiet_step (fail)
      go_big_quiet_step (fail)
      go_big_quiet_step (fail)
      go_big_quiet_step (fail)
      go_big_quiet_step (fail)
      go_big_quiet_step (fail)
      go_big_quiet_step (fail)
      go_big_quiet_step (fail)
      go_big_quiet_step (fail)
      go_big_quiet_step (fail)
      go_big_quiet_step (fail)
      go_big_quiet_step (fail)
      go_big_quiet_step (fail)
      go_big_quiet_step (fail)
      go_big_quiet_step (fail)
      go_big_quiet_step (fail)
      go_big_quiet_step (fail)
      go_big_quiet_step (fail)
      go_big_quiet_step (fail)
      go_big_quiet_step (fail)
      go_big_quiet_step (fail)
      go_big_quiet_step (fail)
      go_big_quiet_want
      refine quiet_pure (.bool true) (fun W hW => exec_pick _ _ _ true _ rfl rfl rfl) ?_
      go_big_quiet_on
      simp only [Act.put, List.setIfInBounds_toArray, List.set_cons_succ, List.set_cons_zero]
      go_big_quiet_step (fail)
      refine wpQuiet_nil ?_
      intro wq bq
      have BR := hide (later BQ.out bq)
      clear bq
      go_wp2
      go_ret
      exact ⟨by rw [HR.out]; rfl, BR.out⟩
    | false =>
      cases a2 with
      | true =>
        cases a3 with
        | true =>
          refine region_quiet_C (fun W => Below wq.heap.size wq W) (by kernel_rfl) (by kernel_rfl) (later_drew _) ?_
          go_big_quiet_step (fail)
          go_big_quiet_want
          refine quiet_pure (.pointer (some ⟨b, 0, none⟩)) (fun W hW => exec_nil _ _ rfl rfl) ?_
          go_big_quiet_on
          simp only [Act.put, List.setIfInBounds_toArray, List.set_cons_succ, List.set_cons_zero]
          go_big_quiet_want
          refine quiet_pure (.pointer (some ⟨b, 11, none⟩)) (fun W hW => exec_fieldO 50 _ 1 b 0 11 rfl rfl (fun w => by kernel_rfl)) ?_
          go_big_quiet_on
          simp only [Act.put, List.setIfInBounds_toArray, List.set_cons_succ, List.set_cons_zero]
          go_big_quiet_want
          refine quiet_pure (.pointer (some ⟨b, 13, none⟩)) (fun W hW => exec_fieldO 28 _ 2 b 11 13 rfl rfl (fun w => by kernel_rfl)) ?_
          go_big_quiet_on
          simp only [Act.put, List.setIfInBounds_toArray, List.set_cons_succ, List.set_cons_zero]
          go_big_quiet_want
          refine quiet_pure (.int .u32 s.seq) (fun W hW => exec_load1 22 one32 _ rfl b 13 rfl (.int .u32 s.seq) ((HJ2.out.later hW).cs 2 _ rfl)) ?_
          go_big_quiet_on
          simp only [Act.put, List.setIfInBounds_toArray, List.set_cons_succ, List.set_cons_zero]
          go_big_quiet_step (fail)
          go_big_quiet_want
          refine quiet_pure (.pointer (some ⟨b, 0, none⟩)) (fun W hW => exec_nil _ _ rfl rfl) ?_
          go_big_quiet_on
          simp only [Act.put, List.setIfInBounds_toArray, List.set_cons_succ, List.set_cons_zero]
          go_big_quiet_want
          refine quiet_pure (.pointer (some ⟨b, 0, none⟩)) (fun W hW => exec_fieldO 50 _ 0 b 0 0 rfl rfl (fun w => by kernel_rfl)) ?_
          go_big_quiet_on
          simp only [Act.put, List.setIfInBounds_toArray, List.set_cons_succ, List.set_cons_zero]
          go_big_quiet_want
          refine quiet_pure (.pointer (some ⟨b, 6, none⟩)) (fun W hW => exec_fieldO 24 _ 6 b 0 6 rfl rfl (fun w => by kernel_rfl)) ?_
          go_big_quiet_on
          simp only [Act.put, List.setIfInBounds_toArray, List.set_cons_succ, List.set_cons_zero]
          go_big_quiet_want
          refine quiet_pure (.int .u32 c.wl1) (fun W hW => exec_load1 22 one32 _ rfl b 6 rfl (.int .u32 c.wl1) ((HJ2.out.later hW).cc 6 _ rfl)) ?_
          go_big_quiet_on
          simp only [Act.put, List.setIfInBounds_toArray, List.set_cons_succ, List.set_cons_zero]
          go_big_quiet_want
          refine quiet_call 34 #[.int .u32 s.seq, .int .u32 c.wl1] (.bool false) (fun _ => by simp [Act.eval, go_sem]) (fun W hW => (isBehind_any s.seq c.wl1 W).mono fun e w' h => ⟨by rw [H1.out]; exact h.1, by rw [h.2]; exact hW⟩) ?_
          go_big_quiet_on
          simp only [Act.put, List.setIfInBounds_toArray, List.set_cons_succ, List.set_cons_zero]
          go_big_quiet_step (fail)
          go_big_quiet_step (fail)
          go_big_quiet_want
          refine quiet_pure (.pointer (some ⟨b, 0, none⟩)) (fun W hW => exec_nil _ _ rfl rfl) ?_
          go_big_quiet_on
          simp only [Act.put, List.setIfInBounds_toArray, List.set_cons_succ, List.set_cons_zero]
          go_big_quiet_want
          refine quiet_pure (.pointer (some ⟨b, 11, none⟩)) (fun W hW => exec_fieldO 50 _ 1 b 0 11 rfl rfl (fun w => by kernel_rfl)) ?_
          go_big_quiet_on
          simp only [Act.put, List.setIfInBounds_toArray, List.set_cons_succ, List.set_cons_zero]
          go_big_quiet_want
          refine quiet_pure (.pointer (some ⟨b, 13, none⟩)) (fun W hW => exec_fieldO 28 _ 2 b 11 13 rfl rfl (fun w => by kernel_rfl)) ?_
          go_big_quiet_on
          simp only [Act.put, List.setIfInBounds_toArray, List.set_cons_succ, List.set_cons_zero]
          go_big_quiet_want
          refine quiet_pure (.int .u32 s.seq) (fun W hW => exec_load1 22 one32 _ rfl b 13 rfl (.int .u32 s.seq) ((HJ2.out.later hW).cs 2 _ rfl)) ?_
          go_big_quiet_on
          simp only [Act.put, List.setIfInBounds_toArray, List.set_cons_succ, List.set_cons_zero]
          go_big_quiet_step (fail)
          go_big_quiet_want
          refine quiet_pure (.pointer (some ⟨b, 0, none⟩)) (fun W hW => exec_nil _ _ rfl rfl) ?_
          go_big_quiet_on
          simp only [Act.put, List.setIfInBounds_toArray, List.set_cons_succ, List.set_cons_zero]
          go_big_quiet_want
          refine quiet_pure (.pointer (some ⟨b, 0, none⟩)) (fun W hW => exec_fieldO 50 _ 0 b 0 0 rfl rfl (fun w => by kernel_rfl)) ?_
          go_big_quiet_on
          simp only [Act.put, List.setIfInBounds_toArray, List.set_cons_succ, List.set_cons_zero]
          go_big_quiet_want
          refine quiet_pure (.pointer (some ⟨b, 6, none⟩)) (fun W hW => exec_fieldO 24 _ 6 b 0 6 rfl rfl (fun w => by kernel_rfl)) ?_
          go_big_quiet_on
          simp only [Act.put, List.setIfInBounds_toArray, List.set_cons_succ, List.set_cons_zero]
          go_big_quiet_want
          refine quiet_pure (.int .u32 c.wl1) (fun W hW => exec_load1 22 one32 _ rfl b 6 rfl (.int .u32 c.wl1) ((HJ2.out.later hW).cc 6 _ rfl)) ?_
          go_big_quiet_on
          simp only [Act.put, List.setIfInBounds_toArray, List.set_cons_succ, List.set_cons_zero]
          go_big_quiet_want
          refine quiet_pure (.bool true) (fun W hW => exec_equ _ _ _ _ _ _ rfl rfl rfl H2.out.symm) ?_
          go_big_quiet_on
          simp only [Act.put, List.setIfInBounds_toArray, List.set_cons_succ, List.set_cons_zero]
          go_big_quiet_step (fail)
          go_big_quiet_step (fail)
          go_big_quiet_want
          refine quiet_pure (.pointer (some ⟨b, 0, none⟩)) (fun W hW => exec_nil _ _ rfl rfl) ?_
          go_big_quiet_on
          simp only [Act.put, List.setIfInBounds_toArray, List.set_cons_succ, List.set_cons_zero]
          go_big_quiet_want
          refine quiet_pure (.pointer (some ⟨b, 11, none⟩)) (fun W hW => exec_fieldO 50 _ 1 b 0 11 rfl rfl (fun w => by kernel_rfl)) ?_
          go_big_quiet_on
          simp only [Act.put, List.setIfInBounds_toArray, List.set_cons_succ, List.set_cons_zero]
          go_big_quiet_want
          refine quiet_pure (.pointer (some ⟨b, 14, none⟩)) (fun W hW => exec_fieldO 28 _ 3 b 11 14 rfl rfl (fun w => by kernel_rfl)) ?_
          go_big_quiet_on
          simp only [Act.put, List.setIfInBounds_toArray, List.set_cons_succ, List.set_cons_zero]
          go_big_quiet_want
          refine quiet_pure (.int .u32 s.ack) (fun W hW => exec_load1 22 one32 _ rfl b 14 rfl (.int .u32 s.ack) ((HJ2.out.later hW).cs 3 _ rfl)) ?_
          go_big_quiet_on
          simp only [Act.put, List.setIfInBounds_toArray, List.set_cons_succ, List.set_cons_zero]
          go_big_quiet_step (fail)
          go_big_quiet_want
          refine quiet_pure (.pointer (some ⟨b, 0, none⟩)) (fun W hW => exec_nil _ _ rfl rfl) ?_
          go_big_quiet_on
          simp only [Act.put, List.setIfInBounds_toArray, List.set_cons_succ, List.set_cons_zero]
          go_big_quiet_want
          refine quiet_pure (.pointer (some ⟨b, 0, none⟩)) (fun W hW => exec_fieldO 50 _ 0 b 0 0 rfl rfl (fun w => by kernel_rfl)) ?_
          go_big_quiet_on
          simp only [Act.put, List.setIfInBounds_toArray, List.set_cons_succ, List.set_cons_zero]
          go_big_quiet_want
          refine quiet_pure (.pointer (some ⟨b, 7, none⟩)) (fun W hW => exec_fieldO 24 _ 7 b 0 7 rfl rfl (fun w => by kernel_rfl)) ?_
          go_big_quiet_on
          simp only [Act.put, List.setIfInBounds_toArray, List.set_cons_succ, List.set_cons_zero]
          go_big_quiet_want
          refine quiet_pure (.int .u32 c.wl2) (fun W hW => exec_load1 22 one32 _ rfl b 7 rfl (.int .u32 c.wl2) ((HJ2.out.later hW).cc 7 _ rfl)) ?_
          go_big_quiet_on
          simp only [Act.put, List.setIfInBounds_toArray, List.set_cons_succ, List.set_cons_zero]
          go_big_quiet_want
          refine quiet_call 58 #[.int .u32 s.ack, .int .u32 c.wl2] (.bool true) (fun _ => by simp [Act.eval, go_sem]) (fun W hW => (isAhead_any s.ack c.wl2 W).mono fun e w' h => ⟨by rw [H3.out]; exact h.1, by rw [h.2]; exact hW⟩) ?_
          go_big_quiet_on
          simp only [Act.put, List.setIfInBounds_toArray, List.set_cons_succ, List.set_cons_zero]
          go_big_quiet_want
          refine quiet_pure (.bool false) (fun W hW => exec_not _ _ true rfl rfl) ?_
          go_big_quiet_on
          simp only [Act.put, List.setIfInBounds_toArray, List.set_cons_succ, List.set_cons_zero]
          go_big_quiet_want
          refine quiet_pure (.bool false) (fun W hW => exec_pick _ _ _ true _ rfl rfl rfl) ?_
          go_big_quiet_on
          simp only [Act.put, List.setIfInBounds_toArray, List.set_cons_succ, List.set_cons_zero]
          go_big_quiet_want
          refine quiet_pure (.bool false) (fun W hW => exec_pick _ _ _ false _ rfl rfl rfl) ?_
          go_big_quiet_on
          simp only [Act.put, List.setIfInBounds_toArray, List.set_cons_succ, List.set_cons_zero]
          go_big_quiet_step (fail)
          refine wpQuiet_nil ?_
          intro wq bq
          have BR := hide (later BQ.out bq)
          clear bq
          go_wp2
          go_ret
          exact ⟨by rw [HR.out]; rfl, BR.out⟩
        | false =>
          refine region_quiet_C (fun W => Below wq.heap.size wq W) (by kernel_rfl) (by kernel_rfl) (later_drew _) ?_
          go_big_quiet_step (fail)
          go_big_quiet_want
          refine quiet_pure (.pointer (some ⟨b, 0, none⟩)) (fun W hW => exec_nil _ _ rfl rfl) ?_
          go_big_quiet_on
          simp only [Act.put, List.setIfInBounds_toArray, List.set_cons_succ, List.set_cons_zero]
          go_big_quiet_want
          refine quiet_pure (.pointer (some ⟨b, 11, none⟩)) (fun W hW => exec_fieldO 50 _ 1 b 0 11 rfl rfl (fun w => by kernel_rfl)) ?_
          go_big_quiet_on
          simp only [Act.put, List.setIfInBounds_toArray, List.set_cons_succ, List.set_cons_zero]
          go_big_quiet_want
          refine quiet_pure (.pointer (some ⟨b, 13, none⟩)) (fun W hW => exec_fieldO 28 _ 2 b 11 13 rfl rfl (fun w => by kernel_rfl)) ?_
          go_big_quiet_on
          simp only [Act.put, List.setIfInBounds_toArray, List.set_cons_succ, List.set_cons_zero]
          go_big_quiet_want
          refine quiet_pure (.int .u32 s.seq) (fun W hW => exec_load1 22 one32 _ rfl b 13 rfl (.int .u32 s.seq) ((HJ2.out.later hW).cs 2 _ rfl)) ?_
          go_big_quiet_on
          simp only [Act.put, List.setIfInBounds_toArray, List.set_cons_succ, List.set_cons_zero]
          go_big_quiet_step (fail)
          go_big_quiet_want
          refine quiet_pure (.pointer (some ⟨b, 0, none⟩)) (fun W hW => exec_nil _ _ rfl rfl) ?_
          go_big_quiet_on
          simp only [Act.put, List.setIfInBounds_toArray, List.set_cons_succ, List.set_cons_zero]
          go_big_quiet_want
          refine quiet_pure (.pointer (some ⟨b, 0, none⟩)) (fun W hW => exec_fieldO 50 _ 0 b 0 0 rfl rfl (fun w => by kernel_rfl)) ?_
          go_big_quiet_on
          simp only [Act.put, List.setIfInBounds_toArray, List.set_cons_succ, List.set_cons_zero]
          go_big_quiet_want
          refine quiet_pure (.pointer (some ⟨b, 6, none⟩)) (fun W hW => exec_fieldO 24 _ 6 b 0 6 rfl rfl (fun w => by kernel_rfl)) ?_
          go_big_quiet_on
          simp only [Act.put, List.setIfInBounds_toArray, List.set_cons_succ, List.set_cons_zero]
          go_big_quiet_want
          refine quiet_pure (.int .u32 c.wl1) (fun W hW => exec_load1 22 one32 _ rfl b 6 rfl (.int .u32 c.wl1) ((HJ2.out.later hW).cc 6 _ rfl)) ?_
          go_big_quiet_on
          simp only [Act.put, List.setIfInBounds_toArray, List.set_cons_succ, List.set_cons_zero]
          go_big_quiet_want
          refine quiet_call 34 #[.int .u32 s.seq, .int .u32 c.wl1] (.bool false) (fun _ => by simp [Act.eval, go_sem]) (fun W hW => (isBehind_any s.seq c.wl1 W).mono fun e w' h => ⟨by rw [H1.out]; exact h.1, by rw [h.2]; exact hW⟩) ?_
          go_big_quiet_on
          simp only [Act.put, List.setIfInBounds_toArray, List.set_cons_succ, List.set_cons_zero]
          go_big_quiet_step (fail)
          go_big_quiet_step (fail)
          go_big_quiet_want
          refine quiet_pure (.pointer (some ⟨b, 0, none⟩)) (fun W hW => exec_nil _ _ rfl rfl) ?_
          go_big_quiet_on
          simp only [Act.put, List.setIfInBounds_toArray, List.set_cons_succ, List.set_cons_zero]
          go_big_quiet_want
          refine quiet_pure (.pointer (some ⟨b, 11, none⟩)) (fun W hW => exec_fieldO 50 _ 1 b 0 11 rfl rfl (fun w => by kernel_rfl)) ?_
          go_big_quiet_on
          simp only [Act.put, List.setIfInBounds_toArray, List.set_cons_succ, List.set_cons_zero]
          go_big_quiet_want
          refine quiet_pure (.pointer (some ⟨b, 13, none⟩)) (fun W hW => exec_fieldO 28 _ 2 b 11 13 rfl rfl (fun w => by kernel_rfl)) ?_
          go_big_quiet_on
          simp only [Act.put, List.setIfInBounds_toArray, List.set_cons_succ, List.set_cons_zero]
          go_big_quiet_want
          refine quiet_pure (.int .u32 s.seq) (fun W hW => exec_load1 22 one32 _ rfl b 13 rfl (.int .u32 s.seq) ((HJ2.out.later hW).cs 2 _ rfl)) ?_
          go_big_quiet_on
          simp only [Act.put, List.setIfInBounds_toArray, List.set_cons_succ, List.set_cons_zero]
          go_big_quiet_step (fail)
          go_big_quiet_want
          refine quiet_pure (.pointer (some ⟨b, 0, none⟩)) (fun W hW => exec_nil _ _ rfl rfl) ?_
          go_big_quiet_on
          simp only [Act.put, List.setIfInBounds_toArray, List.set_cons_succ, List.set_cons_zero]
          go_big_quiet_want
          refine quiet_pure (.pointer (some ⟨b, 0, none⟩)) (fun W hW => exec_fieldO 50 _ 0 b 0 0 rfl rfl (fun w => by kernel_rfl)) ?_
          go_big_quiet_on
          simp only [Act.put, List.setIfInBounds_toArray, List.set_cons_succ, List.set_cons_zero]
          go_big_quiet_want
          refine quiet_pure (.pointer (some ⟨b, 6, none⟩)) (fun W hW => exec_fieldO 24 _ 6 b 0 6 rfl rfl (fun w => by kernel_rfl)) ?_
          go_big_quiet_on
          simp only [Act.put, List.setIfInBounds_toArray, List.set_cons_succ, List.set_cons_zero]
          go_big_quiet_want
          refine quiet_pure (.int .u32 c.wl1) (fun W hW => exec_load1 22 one32 _ rfl b 6 rfl (.int .u32 c.wl1) ((HJ2.out.later hW).cc 6 _ rfl)) ?_
          go_big_quiet_on
          simp only [Act.put, List.setIfInBounds_toArray, List.set_cons_succ, List.set_cons_zero]
          go_big_quiet_want
          refine quiet_pure (.bool true) (fun W hW => exec_equ _ _ _ _ _ _ rfl rfl rfl H2.out.symm) ?_
          go_big_quiet_on
          simp only [Act.put, List.setIfInBounds_toArray, List.set_cons_succ, List.set_cons_zero]
          go_big_quiet_step (fail)
          go_big_quiet_step (fail)
          go_big_quiet_want
          refine quiet_pure (.pointer (some ⟨b, 0, none⟩)) (fun W hW => exec_nil _ _ rfl rfl) ?_
          go_big_quiet_on
          simp only [Act.put, List.setIfInBounds_toArray, List.set_cons_succ, List.set_cons_zero]
          go_big_quiet_want
          refine quiet_pure (.pointer (some ⟨b, 11, none⟩)) (fun W hW => exec_fieldO 50 _ 1 b 0 11 rfl rfl (fun w => by kernel_rfl)) ?_
          go_big_quiet_on
          simp only [Act.put, List.setIfInBounds_toArray, List.set_cons_succ, List.set_cons_zero]
          go_big_quiet_want
          refine quiet_pure (.pointer (some ⟨b, 14, none⟩)) (fun W hW => exec_fieldO 28 _ 3 b 11 14 rfl rfl (fun w => by kernel_rfl)) ?_
          go_big_quiet_on
          simp only [Act.put, List.setIfInBounds_toArray, List.set_cons_succ, List.set_cons_zero]
          go_big_quiet_want
          refine quiet_pure (.int .u32 s.ack) (fun W hW => exec_load1 22 one32 _ rfl b 14 rfl (.int .u32 s.ack) ((HJ2.out.later hW).cs 3 _ rfl)) ?_
          go_big_quiet_on
          simp only [Act.put, List.setIfInBounds_toArray, List.set_cons_succ, List.set_cons_zero]
          go_big_quiet_step (fail)
          go_big_quiet_want
          refine quiet_pure (.pointer (some ⟨b, 0, none⟩)) (fun W hW => exec_nil _ _ rfl rfl) ?_
          go_big_quiet_on
          simp only [Act.put, List.setIfInBounds_toArray, List.set_cons_succ, List.set_cons_zero]
          go_big_quiet_want
          refine quiet_pure (.pointer (some ⟨b, 0, none⟩)) (fun W hW => exec_fieldO 50 _ 0 b 0 0 rfl rfl (fun w => by kernel_rfl)) ?_
          go_big_quiet_on
          simp only [Act.put, List.setIfInBounds_toArray, List.set_cons_succ, List.set_cons_zero]
          go_big_quiet_want
          refine quiet_pure (.pointer (some ⟨b, 7, none⟩)) (fun W hW => exec_fieldO 24 _ 7 b 0 7 rfl rfl (fun w => by kernel_rfl)) ?_
          go_big_quiet_on
          simp only [Act.put, List.setIfInBounds_toArray, List.set_cons_succ, List.set_cons_zero]
          go_big_quiet_want
          refine quiet_pure (.int .u32 c.wl2) (fun W hW => exec_load1 22 one32 _ rfl b 7 rfl (.int .u32 c.wl2) ((HJ2.out.later hW).cc 7 _ rfl)) ?_
          go_big_quiet_on
          simp only [Act.put, List.setIfInBounds_toArray, List.set_cons_succ, List.set_cons_zero]
          go_big_quiet_want
          refine quiet_call 58 #[.int .u32 s.ack, .int .u32 c.wl2] (.bool false) (fun _ => by simp [Act.eval, go_sem]) (fun W hW => (isAhead_any s.ack c.wl2 W).mono fun e w' h => ⟨by rw [H3.out]; exact h.1, by rw [h.2]; exact hW⟩) ?_
          go_big_quiet_on
          simp only [Act.put, List.setIfInBounds_toArray, List.set_cons_succ, List.set_cons_zero]
          go_big_quiet_want
          refine quiet_pure (.bool true) (fun W hW => exec_not _ _ false rfl rfl) ?_
          go_big_quiet_on
          simp only [Act.put, List.setIfInBounds_toArray, List.set_cons_succ, List.set_cons_zero]
          go_big_quiet_want
          refine quiet_pure (.bool true) (fun W hW => exec_pick _ _ _ true _ rfl rfl rfl) ?_
          go_big_quiet_on
          simp only [Act.put, List.setIfInBounds_toArray, List.set_cons_succ, List.set_cons_zero]
          go_big_quiet_want
          refine quiet_pure (.bool true) (fun W hW => exec_pick _ _ _ false _ rfl rfl rfl) ?_
          go_big_quiet_on
          simp only [Act.put, List.setIfInBounds_toArray, List.set_cons_succ, List.set_cons_zero]
          go_big_quiet_step (fail)
          refine wpQuiet_nil ?_
          intro wq bq
          have BR := hide (later BQ.out bq)
          clear bq
          go_wp2
          go_ret
          exact ⟨by rw [HR.out]; rfl, BR.out⟩
      | false =>
        refine region_quiet_C (fun W => Below wq.heap.size wq W) (by kernel_rfl) (by kernel_rfl) (later_drew _) ?_
        go_big_quiet_step (fail)
        go_big_quiet_want
        refine quiet_pure (.pointer (some ⟨b, 0, none⟩)) (fun W hW => exec_nil _ _ rfl rfl) ?_
        go_big_quiet_on
        simp only [Act.put, List.setIfInBounds_toArray, List.set_cons_succ, List.set_cons_zero]
        go_big_quiet_want
        refine quiet_pure (.pointer (some ⟨b, 11, none⟩)) (fun W hW => exec_fieldO 50 _ 1 b 0 11 rfl rfl (fun w => by kernel_rfl)) ?_
        go_big_quiet_on
        simp only [Act.put, List.setIfInBounds_toArray, List.set_cons_succ, List.set_cons_zero]
        go_big_quiet_want
        refine quiet_pure (.pointer (some ⟨b, 13, none⟩)) (fun W hW => exec_fieldO 28 _ 2 b 11 13 rfl rfl (fun w => by kernel_rfl)) ?_
        go_big_quiet_on
        simp only [Act.put, List.setIfInBounds_toArray, List.set_cons_succ, List.set_cons_zero]
        go_big_quiet_want
        refine quiet_pure (.int .u32 s.seq) (fun W hW => exec_load1 22 one32 _ rfl b 13 rfl (.int .u32 s.seq) ((HJ2.out.later hW).cs 2 _ rfl)) ?_
        go_big_quiet_on
        simp only [Act.put, List.setIfInBounds_toArray, List.set_cons_succ, List.set_cons_zero]
        go_big_quiet_step (fail)
        go_big_quiet_want
        refine quiet_pure (.pointer (some ⟨b, 0, none⟩)) (fun W hW => exec_nil _ _ rfl rfl) ?_
        go_big_quiet_on
        simp only [Act.put, List.setIfInBounds_toArray, List.set_cons_succ, List.set_cons_zero]
        go_big_quiet_want
        refine quiet_pure (.pointer (some ⟨b, 0, none⟩)) (fun W hW => exec_fieldO 50 _ 0 b 0 0 rfl rfl (fun w => by kernel_rfl)) ?_
        go_big_quiet_on
        simp only [Act.put, List.setIfInBounds_toArray, List.set_cons_succ, List.set_cons_zero]
        go_big_quiet_want
        refine quiet_pure (.pointer (some ⟨b, 6, none⟩)) (fun W hW => exec_fieldO 24 _ 6 b 0 6 rfl rfl (fun w => by kernel_rfl)) ?_
        go_big_quiet_on
        simp only [Act.put, List.setIfInBounds_toArray, List.set_cons_succ, List.set_cons_zero]
        go_big_quiet_want
        refine quiet_pure (.int .u32 c.wl1) (fun W hW => exec_load1 22 one32 _ rfl b 6 rfl (.int .u32 c.wl1) ((HJ2.out.later hW).cc 6 _ rfl)) ?_
        go_big_quiet_on
        simp only [Act.put, List.setIfInBounds_toArray, List.set_cons_succ, List.set_cons_zero]
        go_big_quiet_want
        refine quiet_call 34 #[.int .u32 s.seq, .int .u32 c.wl1] (.bool false) (fun _ => by simp [Act.eval, go_sem]) (fun W hW => (isBehind_any s.seq c.wl1 W).mono fun e w' h => ⟨by rw [H1.out]; exact h.1, by rw [h.2]; exact hW⟩) ?_
        go_big_quiet_on
        simp only [Act.put, List.setIfInBounds_toArray, List.set_cons_succ, List.set_cons_zero]
        go_big_quiet_step (fail)
        go_big_quiet_step (fail)
        go_big_quiet_want
        refine quiet_pure (.pointer (some ⟨b, 0, none⟩)) (fun W hW => exec_nil _ _ rfl rfl) ?_
        go_big_quiet_on
        simp only [Act.put, List.setIfInBounds_toArray, List.set_cons_succ, List.set_cons_zero]
        go_big_quiet_want
        refine quiet_pure (.pointer (some ⟨b, 11, none⟩)) (fun W hW => exec_fieldO 50 _ 1 b 0 11 rfl rfl (fun w => by kernel_rfl)) ?_
        go_big_quiet_on
        simp only [Act.put, List.setIfInBounds_toArray, List.set_cons_succ, List.set_cons_zero]
        go_big_quiet_want
        refine quiet_pure (.pointer (some ⟨b, 13, none⟩)) (fun W hW => exec_fieldO 28 _ 2 b 11 13 rfl rfl (fun w => by kernel_rfl)) ?_
        go_big_quiet_on
        simp only [Act.put, List.setIfInBounds_toArray, List.set_cons_succ, List.set_cons_zero]
        go_big_quiet_want
        refine quiet_pure (.int .u32 s.seq) (fun W hW => exec_load1 22 one32 _ rfl b 13 rfl (.int .u32 s.seq) ((HJ2.out.later hW).cs 2 _ rfl)) ?_
        go_big_quiet_on
        simp only [Act.put, List.setIfInBounds_toArray, List.set_cons_succ, List.set_cons_zero]
        go_big_quiet_step (fail)
        go_big_quiet_want
        refine quiet_pure (.pointer (some ⟨b, 0, none⟩)) (fun W hW => exec_nil _ _ rfl rfl) ?_
        go_big_quiet_on
        simp only [Act.put, List.setIfInBounds_toArray, List.set_cons_succ, List.set_cons_zero]
        go_big_quiet_want
        refine quiet_pure (.pointer (some ⟨b, 0, none⟩)) (fun W hW => exec_fieldO 50 _ 0 b 0 0 rfl rfl (fun w => by kernel_rfl)) ?_
        go_big_quiet_on
        simp only [Act.put, List.setIfInBounds_toArray, List.set_cons_succ, List.set_cons_zero]
        go_big_quiet_want
        refine quiet_pure (.pointer (some ⟨b, 6, none⟩)) (fun W hW => exec_fieldO 24 _ 6 b 0 6 rfl rfl (fun w => by kernel_rfl)) ?_
        go_big_quiet_on
        simp only [Act.put, List.setIfInBounds_toArray, List.set_cons_succ, List.set_cons_zero]
        go_big_quiet_want
        refine quiet_pure (.int .u32 c.wl1) (fun W hW => exec_load1 22 one32 _ rfl b 6 rfl (.int .u32 c.wl1) ((HJ2.out.later hW).cc 6 _ rfl)) ?_
        go_big_quiet_on
        simp only [Act.put, List.setIfInBounds_toArray, List.set_cons_succ, List.set_cons_zero]
        go_big_quiet_want
        refine quiet_pure (.bool false) (fun W hW => exec_equ _ _ _ _ _ _ rfl rfl rfl H2.out.symm) ?_
        go_big_quiet_on
        simp only [Act.put, List.setIfInBounds_toArray, List.set_cons_succ, List.set_cons_zero]
        go_big_quiet_step (fail)
        go_big_quiet_step (fail)
        go_big_quiet_step (fail)
        go_big_quiet_step (fail)
        go_big_quiet_step (fail)
        go_big_quiet_step (fail)
        go_big_quiet_step (fail)
        go_big_quiet_step (fail)
        go_big_quiet_step (fail)
        go_big_quiet_step (fail)
        go_big_quiet_step (fail)
        go_big_quiet_step (fail)
        go_big_quiet_step (fail)
        go_big_quiet_want
        refine quiet_pure (.bool false) (fun W hW => exec_pick _ _ _ false _ rfl rfl rfl) ?_
        go_big_quiet_on
        simp only [Act.put, List.setIfInBounds_toArray, List.set_cons_succ, List.set_cons_zero]
        go_big_quiet_want
        refine quiet_pure (.bool false) (fun W hW => exec_pick _ _ _ false _ rfl rfl rfl) ?_
        go_big_quiet_on
        simp only [Act.put, List.setIfInBounds_toArray, List.set_cons_succ, List.set_cons_zero]
        go_big_quiet_step (fail)
        refine wpQuiet_nil ?_
        intro wq bq
        have BR := hide (later BQ.out bq)
        clear bq
        go_wp2
        go_ret
        exact ⟨by rw [HR.out]; rfl, BR.out⟩
end
end Go.Proofs.Ytgdcdgofahhfdaa
