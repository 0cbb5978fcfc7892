
/-
  RingHolds' own calls: gets, lets.
-/
import Derived.Test.YtjkfjijnjkpbbaaJ5
namespace Go.Proofs.Ytjkfjijnjkpbbaa
open Go.RowKit

/-- who took how many, in a row of n numbers -/
structure HeldAt (W : World) (b n : Nat) (hl : Nat → Nat) : Prop where
  n0 : 0 < n
  cell : ∀ i, i < n → W.cell? ⟨b, i, none⟩ = some (.int .i64 (hl i : Int))
  fz : ∀ k, W.frozen? ⟨b, k, none⟩ = false
theorem HeldAt.lt {W : World} {b n : Nat} {hl : Nat → Nat} (h : HeldAt W b n hl) : b < W.heap.size := World.block_lt_of_cell? W _ (h.cell 0 h.n0)
theorem HeldAt.but {W W' : World} {b n : Nat} {hl : Nat → Nat} (h : HeldAt W b n hl) {K : Nat → Prop} (hb : But K W W') (hk : ¬ K b) : HeldAt W' b n hl :=
  ⟨h.n0, fun i hi => (hb.cell (p := ⟨b, i, none⟩) h.lt hk).trans (h.cell i hi), fun k => (hb.frozen (p := ⟨b, k, none⟩) h.lt hk).trans (h.fz k)⟩
theorem HeldAt.later {W W' : World} {b n : Nat} {hl : Nat → Nat} (h : HeldAt W b n hl) (hb : Below W.heap.size W W') : HeldAt W' b n hl := h.but (K := fun _ => False) (But.of_below hb) id
theorem HeldAt.set {W : World} {b n : Nat} {hl : Nat → Nat} (h : HeldAt W b n hl) (i : Nat) (hi : i < n) (v : Nat) : HeldAt (W.setCell ⟨b, i, none⟩ (.int .i64 (v : Int))) b n (upd hl i v) := by
  refine ⟨h.n0, fun k hk => ?_, fun k => (World.frozen?_setCell ..).trans (h.fz k)⟩
  by_cases e : k = i
  · subst e; rw [World.cell?_setCell_same' _ _ _ (by rw [h.cell k hk]; rfl), upd_same]
  · rw [setCell_out e, h.cell k hk, upd_other _ _ _ _ e]

section
variable {A A' : Nat → Prop} {w : World} {x b : Nat} {q : Bl} {n : Nat} {D : Dev} {B : Nat → Buf} {s c : Sd} {hl : Nat → Nat}

set_option maxRecDepth 100000 in
theorem gets_no (R : RigP A w x q n D B s c) (hg : gt n B = none) (b : Nat) (v : Value) : Calls Try.prog 11 #[.pointer (some ⟨x, 0, none⟩), .slice (some ⟨b, 0, none⟩) n n, v] w fun e w' => e = .returned (.bool true) ∧ w' = w := by
  have X := hide (Get_no R.p.pool (gt_none hg))
  have k1 := R.c1
  clear R
  go_enter Try.func11, Try.ntmps11
  go_wp2_with fail
  refine X.out.mono ?_
  rintro _ w1 ⟨rfl, hw⟩
  have hw' := hw.symm
  subst hw'
  clear hw X
  go_wp2
  go_ret
  exact ⟨rfl, rfl⟩

set_option maxRecDepth 100000 in
theorem gets_yes (R : RigP A w x q n D B s c) (H : HeldAt w b n hl) (hbg : b ≠ q.g) (hbx : b ≠ x) (hAb : A b) (hbq : ¬ PK q b) (hbp : b ≠ q.p) {i : Nat} (hg : gt n B = some i) (v : Value) (bs : List Int) (hv : IsF A' w v bs) (hA' : A' q.g) (hbd : hl i < 4611686018427387904) :
    Calls Try.prog 11 #[.pointer (some ⟨x, 0, none⟩), .slice (some ⟨b, 0, none⟩) n n, v] w fun e w' => e = .returned (.bool true) ∧ RigP A w' x q n D (stB n (upd B i ⟨1, [], []⟩) (i : Int) bs) s c ∧ HeldAt w' b n (upd hl i (hl i + 1)) ∧ But (fun g => g = q.g ∨ g = b) w w' := by
  obtain ⟨hi, h0, hl0⟩ := gt_some hg
  have X := hide (Get_yes R.p.pool i hi h0 hl0)
  have k1 := R.c1
  have HR := hide R
  have HH := hide H
  have HV := hide hv
  have hn : n ≤ 4096 := R.p.pool.n1
  have z1 : (i : Int) < (n : Int) := by omega
  have z2 : (n : Int) ≤ 4096 := by omega
  obtain ⟨y, hy⟩ : ∃ y : Int, y = (hl i : Int) := ⟨_, rfl⟩
  have zb : y < 4611686018427387904 := by omega
  have zb0 : 0 ≤ y := by omega
  have HY := hide hy
  clear hy
  obtain ⟨va, vc, rfl, _⟩ := hv.shape
  have HBG := hide hbg
  have HBX := hide hbx
  have HBQ := hide hbq
  have HBP := hide hbp
  have HAB := hide hAb
  have HA' := hide hA'
  clear R H hg h0 hl0 hv hbd hbg hbx hbq hbp hAb hA'
  go_enter Try.func11, Try.ntmps11
  go_wp2_with fail
  refine X.out.mono ?_
  rintro _ w1 ⟨rfl, p1, b1⟩
  have R1 := hide (HR.out.did (b1.mono (fun g e => .inr (.inl e))) (HR.out.p.onPool b1 p1))
  have H1 := hide (HH.out.but b1 (fun e => HBG.out e))
  have V1 := hide (HV.out.but b1 (fun g e => e ▸ HA'.out))
  have B1 := hide b1
  have XS := hide (Set_any R1.out.p.pool (i : Int) _ bs V1.out)
  clear p1 b1 X HR HH HV k1
  have k1 := R1.out.c1
  go_wp2_with fail
  refine XS.out.mono ?_
  rintro _ w2 ⟨rfl, p2, b2⟩
  have R2 := hide (R1.out.did (b2.mono (fun g e => .inr (.inl e))) (R1.out.p.onPool b2 p2))
  have H2 := hide (H1.out.but b2 (fun e => HBG.out e))
  have B2 := hide (B1.out.trans b2)
  have hc : w2.cell? ⟨b, i, none⟩ = some (.int .i64 y) := by rw [HY.out]; exact H2.out.cell i hi
  have hf := H2.out.fz i
  have H3 := hide (H2.out.set i hi (hl i + 1))
  have b3 : But (Only b) w2 (w2.setCell ⟨b, i, none⟩ (.int .i64 ((hl i + 1 : Nat) : Int))) := (But.refl _ _).cellb _ _
  have R3 := hide (R2.out.but b3 (fun g e => e ▸ HAB.out) (fun e => HBQ.out (.inl (Eq.symm e))) (fun e => HBP.out (Eq.symm e)) (fun e => HBG.out (Eq.symm e)) (fun e => HBQ.out (.inr (.inr (Eq.symm e)))) (fun e => HBX.out (Eq.symm e)))
  have B3 : Hid (But (fun g => g = q.g ∨ g = b) w (w2.setCell ⟨b, i, none⟩ (.int .i64 ((hl i + 1 : Nat) : Int)))) := (B2.out.mono (fun g e => .inl e)).trans (b3.mono (fun g e => .inr e))
  rw [show ((hl i + 1 : Nat) : Int) = y + 1 by have := HY.out; omega] at H3 R3 B3
  clear p2 b2 b3 XS R1 H1 V1 B1 R2 H2 B2 k1
  go_wp2
  go_ret
  exact ⟨rfl, R3.out, H3.out, B3.out⟩

set_option maxRecDepth 100000 in
theorem lets_no (H : HeldAt w b n hl) (hn : n ≤ 4096) (k : Int) (h : k < 0 ∨ (n : Int) ≤ k ∨ hl k.toNat = 0) : Calls Try.prog 17 #[.pointer (some ⟨x, 0, none⟩), .slice (some ⟨b, 0, none⟩) n n, .int .i64 k] w fun e w' => e = .returned (.bool true) ∧ w' = w := by
  have z2 : (n : Int) ≤ 4096 := by omega
  by_cases h0 : k < 0
  · go_enter Try.func17, Try.ntmps17
    go_wp2
    go_ret
    exact ⟨rfl, rfl⟩
  · by_cases h1 : (n : Int) ≤ k
    · go_enter Try.func17, Try.ntmps17
      go_wp2
      go_ret
      exact ⟨rfl, rfl⟩
    · obtain ⟨i, rfl⟩ : ∃ i : Nat, k = i := ⟨k.toNat, by omega⟩
      have h2 : hl i = 0 := by rcases h with h | h | h; omega; omega; simpa using h
      have hc := H.cell i (by omega)
      rw [h2] at hc
      have z1 : (i : Int) < (n : Int) := by omega
      clear H h h2
      go_enter Try.func17, Try.ntmps17
      go_wp2
      go_ret
      exact ⟨rfl, rfl⟩

set_option maxRecDepth 100000 in
theorem lets_yes (R : RigP A w x q n D B s c) (H : HeldAt w b n hl) (hbx : b ≠ x) (hAb : A b) (hbq : ¬ PK q b) (hbp : b ≠ q.p) {i : Nat} (hi : i < n) (h0 : 0 < hl i) (hbd : hl i < 4611686018427387904) (hbb : (B i).refs < 4611686018427387904) (hE : hoE n B (i : Int) = 0) :
    Calls Try.prog 17 #[.pointer (some ⟨x, 0, none⟩), .slice (some ⟨b, 0, none⟩) n n, .int .i64 (i : Int)] w fun e w' => e = .returned (.bool true) ∧ RigP A w' x q n D (frB n B (i : Int)) s c ∧ HeldAt w' b n (upd hl i (hl i - 1)) ∧ But (fun g => g = q.g ∨ g = b) w w' := by
  have hn : n ≤ 4096 := R.p.pool.n1
  have z1 : (i : Int) < (n : Int) := by omega
  have z2 : (n : Int) ≤ 4096 := by omega
  obtain ⟨y, hy⟩ : ∃ y : Int, y = (hl i : Int) := ⟨_, rfl⟩
  have zb : y < 4611686018427387904 := by omega
  have zb0 : 0 < y := by omega
  have z0 : (y == 0) = false := by rw [beq_eq_false_iff_ne]; omega
  have hc : w.cell? ⟨b, i, none⟩ = some (.int .i64 y) := by rw [hy]; exact H.cell i hi
  have hf := H.fz i
  have H1 := hide (H.set i hi (hl i - 1))
  have b1 : But (Only b) w (w.setCell ⟨b, i, none⟩ (.int .i64 ((hl i - 1 : Nat) : Int))) := (But.refl _ _).cellb _ _
  have R1 := hide (R.but b1 (fun g e => e ▸ hAb) (fun e => hbq (.inl (Eq.symm e))) (fun e => hbp (Eq.symm e)) (fun e => hbq (.inr (.inl (Eq.symm e)))) (fun e => hbq (.inr (.inr (Eq.symm e)))) (fun e => hbx (Eq.symm e)))
  have B1 := hide b1
  rw [show ((hl i - 1 : Nat) : Int) = y - 1 by omega] at H1 R1 B1
  have HE := hide hE
  have HBQ := hide hbq
  have HBB := hide hbb
  clear R H b1 hE hbq hbb hbd hbx hAb hbp hy h0
  go_enter Try.func17, Try.ntmps17
  go_upto_region 4 with fail
  clear hc hf z0
  generalize w.setCell ⟨b, i, none⟩ (.int .i64 (y - 1)) = w1 at *
  have XF := hide (Free_any R1.out.p.pool (i : Int) (by simpa using HBB.out))
  rw [HE.out] at XF
  have k1 := R1.out.c1
  go_wp2_with fail
  refine XF.out.mono ?_
  rintro _ w2 ⟨rfl, p2, b2⟩
  have R2 := hide (R1.out.did (b2.mono (fun g e => .inr (.inl e))) (R1.out.p.onPool b2 p2))
  have H2 := hide (H1.out.but b2 (fun e => HBQ.out (.inr (.inl e))))
  have B2 : Hid (But (fun g => g = q.g ∨ g = b) w w2) := (B1.out.mono (fun g e => .inr e)).trans (b2.mono (fun g e => .inl e))
  clear p2 b2 XF R1 H1 B1 k1
  go_wp2
  go_ret
  exact ⟨rfl, R2.out, H2.out, B2.out⟩
end
end Go.Proofs.Ytjkfjijnjkpbbaa
