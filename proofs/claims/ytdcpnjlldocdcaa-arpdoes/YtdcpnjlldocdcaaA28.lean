
/-
  awake: the chapter's example.
-/
import Derived.Test.YtdcpnjlldocdcaaA27
namespace Go.Proofs.Ytdcpnjlldocdcaa
open Go.RowKit Go.Shelf

theorem ip_any (n : Int) (w : World) : Calls Try.prog 14 #[.int .u8 n] w fun e w' => e = .returned (I4.val ⟨10, 0, 0, n⟩) ∧ Below w.heap.size w w' := by
  go_enter Try.func14, Try.ntmps14
  go_wp2
  refine bodyPost_ret (v := I4.val ⟨10, 0, 0, n⟩) (by simp [results, asAddr, go_sem, I4.val]) rfl ?_
  exact ⟨rfl, (Below.refl _ w).alloc (Nat.le_refl _) _⟩

section
variable {ρ ρ' : Nat → Role} {k : Nat} {W W' : World} {v : Value}
/-- what is nobody's stays as it is, and nobody's -/
theorem RowF.move {n len : Nat} {c : Nat → List Value} (h : RowF n (fun g => ρ g = (0, 0, 0)) W v len c) (hm : Mv k ρ ρ' W W') (hk : 0 < k) : RowF n (fun g => ρ' g = (0, 0, 0)) W' v len c :=
  ((h.own (O' := fun g => ρ g = (0, 0, 0) ∧ g < W.heap.size) (fun g hg e => ⟨e, hg⟩)).but hm.but (fun g e e2 => by rw [e.1] at e2; have e2 : 0 = k := e2; omega)).own (fun g _ e => by rw [hm.keep g e.2 (by rw [e.1]; show 0 ≠ k; omega)]; exact e.1)
theorem RowN.move {L : List Int} (h : RowN (fun g => ρ g = (0, 0, 0)) W v L) (hm : Mv k ρ ρ' W W') (hk : 0 < k) : RowN (fun g => ρ' g = (0, 0, 0)) W' v L :=
  ((h.own (O' := fun g => ρ g = (0, 0, 0) ∧ g < W.heap.size) (fun g hg e => ⟨e, hg⟩)).but hm.but (fun g e e2 => by rw [e.1] at e2; have e2 : 0 = k := e2; omega)).own (fun g _ e => by rw [hm.keep g e.2 (by rw [e.1]; show 0 ≠ k; omega)]; exact e.1)
theorem CellsAt.move {s o : Nat} {vs : List Value} (h : CellsAt W s o vs) (hs : s < W.heap.size) (hr : ρ s = (0, 0, 0)) (hm : Mv k ρ ρ' W W') (hk : 0 < k) : CellsAt W' s o vs ∧ ρ' s = (0, 0, 0) :=
  ⟨h.but hs hm.but (fun e => by rw [hr] at e; have e : 0 = k := e; omega), by rw [hm.keep s hs (by rw [hr]; show 0 ≠ k; omega)]; exact hr⟩
end
section
variable {o : Oper} {w : World} {ev : Operand → Value}
theorem exec_eqe (x y : Operand) (t : TypeId) (a b : Int) (r : Bool) (ho : o.op = .binOp .eql 30 x y t) (hx : ev x = .int .i64 a) (hy : ev y = .int .i64 b) (hr : (a == b) = r) : (execOp ev o).run Try.prog w = .ok (.value (.bool r)) w := by
  unfold execOp
  simp [ho, hx, hy, go_sem, hr]
theorem exec_eqM (x y : Operand) (t : TypeId) (p q : M6) (r : Bool) (ho : o.op = .binOp .eql 23 x y t) (hx : ev x = .agg p.vals.toArray) (hy : ev y = .agg q.vals.toArray) (hr : eqM p q = r) : (execOp ev o).run Try.prog w = .ok (.value (.bool r)) w := by
  subst hr
  have EM := eq_mac
  unfold execOp
  simp [ho, hx, hy, go_sem, M6.vals, EM]
theorem exec_m1 (n : Int) (ho : o.op = .build 23 #[(0, .const (.int .u8 n))]) (hc : ∀ v, ev (.const v) = v) : (execOp ev o).run Try.prog w = .ok (.value (.agg (M6.vals ⟨n, 0, 0, 0, 0, 0⟩).toArray)) w := by
  unfold execOp
  rw [ho]
  simp only [List.map_toArray, List.map_cons, List.map_nil, hc]
  kernel_rfl
theorem exec_ixI (x y : Operand) (g off n c : Nat) (k : Nat) (ho : o.op = .indexAddr 54 x y) (hx : ev x = .slice (some ⟨g, off, none⟩) n c) (hy : ev y = .int .i64 (k : Int)) (hk : k < n) : (execOp ev o).run Try.prog w = .ok (.value (.pointer (some ⟨g, off + k, none⟩))) w := by
  have hki : (k : Int) < n := by omega
  unfold execOp
  simp [ho, hx, hy, go_sem, hki]
theorem exec_ixA (x y : Operand) (g n c : Nat) (k : Nat) (ho : o.op = .indexAddr 53 x y) (hx : ev x = .slice (some ⟨g, 0, none⟩) n c) (hy : ev y = .int .i64 (k : Int)) (hk : k < n) : (execOp ev o).run Try.prog w = .ok (.value (.pointer (some ⟨g, k * 21, none⟩))) w := by
  have hki : (k : Int) < n := by omega
  unfold execOp
  simp [ho, hx, hy, go_sem, hki]
end
/-- nothing below n is anybody's -/
def Clear (n : Nat) (ρ : Nat → Role) : Prop := ∀ g, g < n → ρ g = (0, 0, 0)
theorem Clear.move {n k : Nat} {ρ ρ' : Nat → Role} {W W' : World} (h : Clear n ρ) (hn : n ≤ W.heap.size) (hk : 0 < k) (hm : Mv k ρ ρ' W W') : Clear n ρ' ∧ Below n W W' :=
  ⟨fun g hg => by rw [hm.keep g (by omega) (by rw [h g hg]; show 0 ≠ k; omega)]; exact h g hg, hm.but.below hn (fun g hg e => by rw [h g hg] at e; have e : 0 = k := e; omega)⟩
def hostM : M6 := ⟨2, 0, 0, 0, 0, 0⟩
def hostI : I4 := ⟨10, 0, 0, 1⟩
/-- New, of a host: cache 1 -/
theorem new_host {n : Nat} {w : World} (hn : n ≤ w.heap.size) : Calls Try.prog 13 #[hostM.val, hostI.val] w fun e w' => ∃ c ρ, e = .returned (.pointer (some ⟨c, 0, none⟩)) ∧ Ca ρ 1 w' c hostM hostI [] ∧ Fit ρ w' ∧ Clear n ρ ∧ Below w.heap.size w w' ∧ w.heap.size ≤ c ∧ ∀ g, g < w.heap.size → ρ g = (0, 0, 0) := by
  refine (New_any hostM hostI w).mono ?_
  rintro _ w' ⟨rfl, hb, hl, hc, hf⟩
  obtain ⟨ρ, hρ⟩ : ∃ ρ : Nat → Role, ∀ g, ρ g = if g = w.heap.size + 2 then (1, 0, 0) else (0, 0, 0) := ⟨_, fun _ => rfl⟩
  exact ⟨w.heap.size + 2, ρ, rfl, ⟨_, [], rfl, CAt.new (by omega) (by rw [hρ, if_pos rfl]) hc hf⟩, fun g hg => by rw [hρ, if_neg (by omega)], fun g hg => by rw [hρ, if_neg (by omega)], hb, by omega, fun g hg => by rw [hρ, if_neg (by omega)]⟩
def n1 : Nb := ⟨⟨10, 0, 0, 2⟩, 1, zM, 0, 0, 1, [7]⟩
theorem aw1 : fd ⟨10, 0, 0, 2⟩ 7 0 [] = ⟨zM, [], true, 80, [n1]⟩ := rfl
theorem aw2 : fd ⟨10, 0, 0, 2⟩ 8 0 [n1] = ⟨zM, [], false, 80, [{ n1 with pd := [7, 8] }]⟩ := by rfl
theorem aw3 : fd ⟨10, 0, 0, 2⟩ 9 1 [{ n1 with pd := [7, 8] }] = ⟨zM, [7], false, 80, [{ n1 with pd := [8, 9] }]⟩ := by rfl
def awA : Ar := ⟨true, ⟨4, 0, 0, 0, 0, 0⟩, ⟨10, 0, 0, 2⟩, zM, ⟨10, 0, 0, 1⟩⟩
theorem aw4 : hd hostI awA 1 [{ n1 with pd := [8, 9] }] = ⟨false, [8, 9], ⟨4, 0, 0, 0, 0, 0⟩, [⟨⟨10, 0, 0, 2⟩, 2, ⟨4, 0, 0, 0, 0, 0⟩, 1, 0, 0, []⟩]⟩ := by rfl
theorem aw5 : fd ⟨10, 0, 0, 2⟩ 5 2 [⟨⟨10, 0, 0, 2⟩, 2, ⟨4, 0, 0, 0, 0, 0⟩, 1, 0, 0, []⟩] = ⟨⟨4, 0, 0, 0, 0, 0⟩, [], false, 0, [⟨⟨10, 0, 0, 2⟩, 2, ⟨4, 0, 0, 0, 0, 0⟩, 1, 0, 0, []⟩]⟩ := by rfl

set_option maxRecDepth 100000 in
set_option maxHeartbeats 4000000 in
theorem awake_any (w : World) : Calls Try.prog 8 #[] w fun e w' => e = .returned (.bool true) ∧ Below w.heap.size w w' := by
  obtain ⟨n, hn⟩ : ∃ n, n = w.heap.size := ⟨_, rfl⟩
  have HN := hide hn
  rw [← hn]
  clear hn
  go_enter Try.func8, Try.ntmps8
  go_wp2_with fail
  refine (ip_any 1 w).mono ?_
  rintro _ w0 ⟨rfl, b0⟩
  have NH := hide (new_host (n := n) (w := w0) (by have := b0.size; have := HN.out; omega))
  have B0 : Hid (Below n w w0) := b0.mono (by have := HN.out; omega)
  have Z0 : Hid (n ≤ w0.heap.size) := by have := b0.size; have := HN.out; unfold Hid; omega
  simp only [hostM, hostI, M6.val, I4.val] at NH
  simp only [I4.val]
  clear b0
  go_wp2_with fail
  refine NH.out.mono ?_
  rintro _ w1 ⟨c, ρ0, rfl, hc, hF, hC, hb, hcl, _⟩
  have B1 : Hid (Below n w w1) := B0.out.trans (hb.mono Z0.out)
  have Z1 : Hid (n ≤ w1.heap.size) := by have := hb.size; have := Z0.out; unfold Hid; omega
  have C1 : Hid (Ca ρ0 1 w1 c hostM hostI []) := hc
  have F1 := hide hF
  have K1 := hide hC
  clear NH B0 Z0 hc hF hC hb hcl
  go_wp2_with fail
  refine (ip_any 2 _).mono ?_
  rintro _ w1i ⟨rfl, bi⟩
  have Bi : Hid (Below n w w1i) := B1.out.trans (bi.mono Z1.out)
  have Zi : Hid (n ≤ w1i.heap.size) := by have := bi.size; have := Z1.out; unfold Hid; omega
  have FD := hide (Find_any (C1.out.later bi) (F1.out.below bi.size) 0 7 (LOk.nil 0) (by omega) ⟨10, 0, 0, 2⟩)
  rw [aw1] at FD
  simp only [I4.val] at FD ⊢
  clear bi
  go_wp2_with fail
  refine FD.out.mono ?_
  rintro _ w1f ⟨ρ1, gv, av, rfl, hc, hF, hM, hg, ha⟩
  have hcl := K1.out.move Zi.out (by omega) hM
  have Bf : Hid (Below n w w1f) := Bi.out.trans hcl.2
  have sz := hM.but.size
  have hg0 : RowN (fun g => ρ1 g = (0, 0, 0)) w1f gv _ := hg.own (fun _ _ e => e.1)
  have ha0 : RowF 21 (fun g => ρ1 g = (0, 0, 0)) w1f av _ _ := ha.own (fun _ _ e => e.1)
  obtain ⟨ga1, gc1, rfl⟩ := hg0.shape
  obtain ⟨aa1, ac1, rfl⟩ := ha0.shape
  obtain ⟨w2, hw2⟩ : ∃ x, x = w1f.alloc (.cells #[.int .u8 0, .int .u8 0, .int .u8 0, .int .u8 0, .int .u8 0, .int .u8 0] 23) := ⟨_, rfl⟩
  have bn : Below w1f.heap.size w1f w2 := by rw [hw2]; exact (Below.refl _ _).alloc (Nat.le_refl _) _
  have B2 : Hid (Below n w w2) := Bf.out.trans (bn.mono (by have := Zi.out; omega))
  have Z2 : Hid (n ≤ w2.heap.size) := by have := bn.size; have := Zi.out; unfold Hid; omega
  have C2 := hide (hc.later bn)
  have F2 := hide (hF.below bn.size)
  have K2 := hide hcl.1
  have RA := hide (ha0.later bn)
  have HW2 := hide hw2.symm
  clear hw2 hc hF hM hg ha hg0 ha0 hcl sz bn FD Bf Bi Zi B1 Z1 C1 F1 K1
  simp only [zM]
  simp only [M6.val]
  try simp only [List.length_cons]
  try simp only [List.length_nil]
  try simp only [Nat.reduceAdd]
  try simp only [if_true]
  try simp only [Bool.false_eq_true]
  try simp only [if_false]
  go_wp2_with fail
  rw [HW2.out]
  refine (ip_any 2 _).mono ?_
  rintro _ w2i ⟨rfl, bi⟩
  have Bi : Hid (Below n w w2i) := B2.out.trans (bi.mono Z2.out)
  have Zi : Hid (n ≤ w2i.heap.size) := by have := bi.size; have := Z2.out; unfold Hid; omega
  have RAi := RA.out.later bi
  have FD := hide (Find_any (C2.out.later bi) (F2.out.below bi.size) 0 8 (by refine ⟨by simp, fun x hx => ?_, by simp⟩; rw [List.mem_singleton.1 hx]; exact ⟨by decide, by decide, by decide, by decide, by decide, by decide, by decide, by decide, by decide⟩) (by omega) ⟨10, 0, 0, 2⟩)
  rw [aw2] at FD
  simp only [I4.val] at FD ⊢
  clear bi
  go_wp2_with fail
  refine FD.out.mono ?_
  rintro _ w2f ⟨ρ2, gv, av, rfl, hc, hF, hM, hg, ha⟩
  have hcl := K2.out.move Zi.out (by omega) hM
  have Bf : Hid (Below n w w2f) := Bi.out.trans hcl.2
  have sz := hM.but.size
  have RAm := RAi.move hM (by omega)
  have hg0 : RowN (fun g => ρ2 g = (0, 0, 0)) w2f gv _ := hg.own (fun _ _ e => e.1)
  have ha0 : RowF 21 (fun g => ρ2 g = (0, 0, 0)) w2f av _ _ := ha.own (fun _ _ e => e.1)
  obtain ⟨ga2, gc2, rfl⟩ := hg0.shape
  obtain ⟨aa2, ac2, rfl⟩ := ha0.shape
  obtain ⟨w3, hw3⟩ : ∃ x, x = w2f.alloc (.cells #[.int .u8 0, .int .u8 0, .int .u8 0, .int .u8 0, .int .u8 0, .int .u8 0] 23) := ⟨_, rfl⟩
  have bn : Below w2f.heap.size w2f w3 := by rw [hw3]; exact (Below.refl _ _).alloc (Nat.le_refl _) _
  have B3 : Hid (Below n w w3) := Bf.out.trans (bn.mono (by have := Zi.out; omega))
  have Z3 : Hid (n ≤ w3.heap.size) := by have := bn.size; have := Zi.out; unfold Hid; omega
  have C3 := hide (hc.later bn)
  have F3 := hide (hF.below bn.size)
  have K3 := hide hcl.1
  clear RA
  have RA := hide (RAm.later bn)
  clear RAi RAm
  have HW3 := hide hw3.symm
  clear hw3 hc hF hM hg ha hg0 ha0 hcl sz bn FD Bf Bi Zi B2 Z2 C2 F2 K2
  simp only [zM]
  simp only [M6.val]
  try simp only [List.length_cons]
  try simp only [List.length_nil]
  try simp only [Nat.reduceAdd]
  try simp only [if_true]
  try simp only [Bool.false_eq_true]
  try simp only [if_false]
  go_wp2_with fail
  rw [HW3.out]
  refine (ip_any 2 _).mono ?_
  rintro _ w3i ⟨rfl, bi⟩
  have Bi : Hid (Below n w w3i) := B3.out.trans (bi.mono Z3.out)
  have Zi : Hid (n ≤ w3i.heap.size) := by have := bi.size; have := Z3.out; unfold Hid; omega
  have RAi := RA.out.later bi
  have FD := hide (Find_any (C3.out.later bi) (F3.out.below bi.size) 1 9 (by refine ⟨by simp, fun x hx => ?_, by simp⟩; rw [List.mem_singleton.1 hx]; exact ⟨by decide, by decide, by decide, by decide, by decide, by decide, by decide, by decide, by decide⟩) (by omega) ⟨10, 0, 0, 2⟩)
  rw [aw3] at FD
  simp only [I4.val] at FD ⊢
  clear bi
  go_wp2_with fail
  refine FD.out.mono ?_
  rintro _ w3f ⟨ρ3, gv, av, rfl, hc, hF, hM, hg, ha⟩
  have hcl := K3.out.move Zi.out (by omega) hM
  have Bf : Hid (Below n w w3f) := Bi.out.trans hcl.2
  have sz := hM.but.size
  have RAm := RAi.move hM (by omega)
  have hg0 : RowN (fun g => ρ3 g = (0, 0, 0)) w3f gv _ := hg.own (fun _ _ e => e.1)
  have ha0 : RowF 21 (fun g => ρ3 g = (0, 0, 0)) w3f av _ _ := ha.own (fun _ _ e => e.1)
  obtain ⟨ga3, gc3, rfl⟩ := hg0.shape
  obtain ⟨aa3, ac3, rfl⟩ := ha0.shape
  obtain ⟨w4, hw4⟩ : ∃ x, x = w3f.alloc (.cells #[.int .u8 0, .int .u8 0, .int .u8 0, .int .u8 0, .int .u8 0, .int .u8 0] 23) := ⟨_, rfl⟩
  have bn : Below w3f.heap.size w3f w4 := by rw [hw4]; exact (Below.refl _ _).alloc (Nat.le_refl _) _
  have B4 : Hid (Below n w w4) := Bf.out.trans (bn.mono (by have := Zi.out; omega))
  have Z4 : Hid (n ≤ w4.heap.size) := by have := bn.size; have := Zi.out; unfold Hid; omega
  have C4 := hide (hc.later bn)
  have F4 := hide (hF.below bn.size)
  have K4 := hide hcl.1
  clear RA
  have RA := hide (RAm.later bn)
  clear RAi RAm
  have RG := hide (hg0.later bn)
  have HW4 := hide hw4.symm
  clear hw4 hc hF hM hg ha hg0 ha0 hcl sz bn FD Bf Bi Zi B3 Z3 C3 F3 K3
  simp only [zM]
  simp only [M6.val]
  try simp only [List.length_cons]
  try simp only [List.length_nil]
  try simp only [Nat.reduceAdd]
  try simp only [if_true]
  try simp only [Bool.false_eq_true]
  try simp only [if_false]
  go_wp2_with fail
  rw [HW4.out]
  refine (ip_any 2 _).mono ?_
  rintro _ w4h ⟨rfl, bi⟩
  simp only [I4.val]
  go_wp2_with fail
  refine (ip_any 1 _).mono ?_
  rintro _ w4i ⟨rfl, bi2⟩
  have bi := bi.trans (bi2.mono bi.size)
  clear bi2
  have Bi : Hid (Below n w w4i) := B4.out.trans (bi.mono Z4.out)
  have Zi : Hid (n ≤ w4i.heap.size) := by have := bi.size; have := Z4.out; unfold Hid; omega
  have RAi := RA.out.later bi
  have RGi := RG.out.later bi
  have FD := hide (Heard_any (C4.out.later bi) (F4.out.below bi.size) 1 (by refine ⟨by simp, fun x hx => ?_, by simp⟩; rw [List.mem_singleton.1 hx]; exact ⟨by decide, by decide, by decide, by decide, by decide, by decide, by decide, by decide, by decide⟩) awA)
  rw [aw4] at FD
  rw [show awA.val = .agg #[.bool true, .int .u8 4, .int .u8 0, .int .u8 0, .int .u8 0, .int .u8 0, .int .u8 0, .int .u8 10, .int .u8 0, .int .u8 0, .int .u8 2, .int .u8 0, .int .u8 0, .int .u8 0, .int .u8 0, .int .u8 0, .int .u8 0, .int .u8 10, .int .u8 0, .int .u8 0, .int .u8 1] from rfl] at FD
  simp only [I4.val] at FD ⊢
  clear bi
  go_wp2_with fail
  refine FD.out.mono ?_
  rintro _ w4f ⟨ρ4, av, gv, rfl, hc, hF, hM, hg, ha⟩
  have hcl := K4.out.move Zi.out (by omega) hM
  have Bf : Hid (Below n w w4f) := Bi.out.trans hcl.2
  have sz := hM.but.size
  have RAm := RAi.move hM (by omega)
  have RGm := RGi.move hM (by omega)
  have hg0 : RowN (fun g => ρ4 g = (0, 0, 0)) w4f gv _ := hg.own (fun _ _ e => e.1)
  have ha0 : RowF 21 (fun g => ρ4 g = (0, 0, 0)) w4f av _ _ := ha.own (fun _ _ e => e.1)
  obtain ⟨ga4, gc4, rfl⟩ := hg0.shape
  obtain ⟨aa4, ac4, rfl⟩ := ha0.shape
  obtain ⟨w5, hw5⟩ : ∃ x, x = w4f.alloc (.cells #[.int .u8 4, .int .u8 0, .int .u8 0, .int .u8 0, .int .u8 0, .int .u8 0] 23) := ⟨_, rfl⟩
  have bn : Below w4f.heap.size w4f w5 := by rw [hw5]; exact (Below.refl _ _).alloc (Nat.le_refl _) _
  have B5 : Hid (Below n w w5) := Bf.out.trans (bn.mono (by have := Zi.out; omega))
  have Z5 : Hid (n ≤ w5.heap.size) := by have := bn.size; have := Zi.out; unfold Hid; omega
  have C5 := hide (hc.later bn)
  have F5 := hide (hF.below bn.size)
  have K5 := hide hcl.1
  clear RA
  have RA := hide (RAm.later bn)
  clear RAi RAm
  clear RG
  have RG := hide (RGm.later bn)
  clear RGi RGm
  have RH := hide (hg0.later bn)
  obtain ⟨bt, hbt⟩ : ∃ x, x = w4f.heap.size := ⟨_, rfl⟩
  have CT : Hid (CellsAt w5 bt 0 (M6.vals ⟨4, 0, 0, 0, 0, 0⟩) ∧ ρ4 bt = (0, 0, 0) ∧ bt < w5.heap.size) := ⟨by rw [hw5, hbt]; exact CellsAt.new w4f (M6.vals ⟨4, 0, 0, 0, 0, 0⟩) 23, by rw [hbt]; exact hF _ (Nat.le_refl _), by rw [hw5, hbt]; simp⟩
  have HBt := hide hbt.symm
  clear hbt
  have HW5 := hide hw5.symm
  clear hw5 hc hF hM hg ha hg0 ha0 hcl sz bn FD Bf Bi Zi B4 Z4 C4 F4 K4
  simp only [M6.val]
  try simp only [List.length_cons]
  try simp only [List.length_nil]
  try simp only [Nat.reduceAdd]
  try simp only [if_true]
  try simp only [Bool.false_eq_true]
  try simp only [if_false]
  go_wp2_with fail
  rw [HW5.out]
  rw [HBt.out]
  refine (ip_any 2 _).mono ?_
  rintro _ w5i ⟨rfl, bi⟩
  have Bi : Hid (Below n w w5i) := B5.out.trans (bi.mono Z5.out)
  have Zi : Hid (n ≤ w5i.heap.size) := by have := bi.size; have := Z5.out; unfold Hid; omega
  have RAi := RA.out.later bi
  have RGi := RG.out.later bi
  have RHi := RH.out.later bi
  have CTi := CT.out.1.later CT.out.2.2 bi
  have CTz : bt < w5i.heap.size := by have := CT.out.2.2; have := bi.size; omega
  have FD := hide (Find_any (C5.out.later bi) (F5.out.below bi.size) 2 5 (by refine ⟨by simp, fun x hx => ?_, by simp⟩; rw [List.mem_singleton.1 hx]; exact ⟨by decide, by decide, by decide, by decide, by decide, by decide, by decide, by decide, by decide⟩) (by omega) ⟨10, 0, 0, 2⟩)
  rw [aw5] at FD
  simp only [I4.val] at FD ⊢
  clear bi
  go_wp2_with fail
  refine FD.out.mono ?_
  rintro _ w5f ⟨ρ5, gv, av, rfl, hc, hF, hM, hg, ha⟩
  have hcl := K5.out.move Zi.out (by omega) hM
  have Bf : Hid (Below n w w5f) := Bi.out.trans hcl.2
  have sz := hM.but.size
  have RAm := RAi.move hM (by omega)
  have RGm := RGi.move hM (by omega)
  have RHm := RHi.move hM (by omega)
  have CTm := CTi.move CTz CT.out.2.1 hM (by omega)
  have hg0 : RowN (fun g => ρ5 g = (0, 0, 0)) w5f gv _ := hg.own (fun _ _ e => e.1)
  have ha0 : RowF 21 (fun g => ρ5 g = (0, 0, 0)) w5f av _ _ := ha.own (fun _ _ e => e.1)
  obtain ⟨ga5, gc5, rfl⟩ := hg0.shape
  obtain ⟨aa5, ac5, rfl⟩ := ha0.shape
  obtain ⟨w6, hw6⟩ : ∃ x, x = w5f.alloc (.cells #[.int .u8 4, .int .u8 0, .int .u8 0, .int .u8 0, .int .u8 0, .int .u8 0] 23) := ⟨_, rfl⟩
  have bn : Below w5f.heap.size w5f w6 := by rw [hw6]; exact (Below.refl _ _).alloc (Nat.le_refl _) _
  have B6 : Hid (Below n w w6) := Bf.out.trans (bn.mono (by have := Zi.out; omega))
  have Z6 : Hid (n ≤ w6.heap.size) := by have := bn.size; have := Zi.out; unfold Hid; omega
  have C6 := hide (hc.later bn)
  have F6 := hide (hF.below bn.size)
  have K6 := hide hcl.1
  clear RA
  have RA := hide (RAm.later bn)
  clear RAi RAm
  clear RG
  have RG := hide (RGm.later bn)
  clear RGi RGm
  clear RH
  have RH := hide (RHm.later bn)
  clear RHi RHm
  have CTq : Hid (CellsAt w6 bt 0 (M6.vals ⟨4, 0, 0, 0, 0, 0⟩) ∧ ρ5 bt = (0, 0, 0) ∧ bt < w6.heap.size) := ⟨CTm.1.later (by omega) bn, CTm.2, by have := bn.size; omega⟩
  clear CT
  have CT := CTq
  clear CTq CTi CTm CTz
  obtain ⟨bu, hbu⟩ : ∃ x, x = w5f.heap.size := ⟨_, rfl⟩
  have CU : Hid (CellsAt w6 bu 0 (M6.vals ⟨4, 0, 0, 0, 0, 0⟩) ∧ ρ5 bu = (0, 0, 0) ∧ bu < w6.heap.size) := ⟨by rw [hw6, hbu]; exact CellsAt.new w5f (M6.vals ⟨4, 0, 0, 0, 0, 0⟩) 23, by rw [hbu]; exact hF _ (Nat.le_refl _), by rw [hw6, hbu]; simp⟩
  have HBu := hide hbu.symm
  clear hbu
  have HW6 := hide hw6.symm
  clear hw6 hc hF hM hg ha hg0 ha0 hcl sz bn FD Bf Bi Zi B5 Z5 C5 F5 K5
  simp only [M6.val]
  try simp only [List.length_cons]
  try simp only [List.length_nil]
  try simp only [Nat.reduceAdd]
  try simp only [if_true]
  try simp only [Bool.false_eq_true]
  try simp only [if_false]
  go_wp2_with fail
  rw [HW6.out, HBu.out]
  obtain ⟨gg, og, rfl, hgg, _, cg⟩ := RG.out.at (by simp)
  obtain ⟨gh, oh, rfl, hgh, _, ch⟩ := RH.out.at (by simp)
  obtain ⟨g1, rfl, hg1, _, _, ca⟩ := RA.out.at (by simp)
  have ca := (ar_parts (s := g1) (W := w6) (ca 0 (by simp))).2.2.2
  have cg := cg 0 7 rfl
  have ch := ch 0 8 rfl
  have SB : ∀ W', Below w6.heap.size w6 W' → W'.cell? ⟨gg, og + 0, none⟩ = some (.int .i64 7) ∧ W'.cell? ⟨gh, oh + 0, none⟩ = some (.int .i64 8) ∧ CellsAt W' bt 0 (M6.vals ⟨4, 0, 0, 0, 0, 0⟩) ∧ CellsAt W' bu 0 (M6.vals ⟨4, 0, 0, 0, 0, 0⟩) ∧ CellsAt W' g1 17 (I4.vals ⟨10, 0, 0, 2⟩) := fun W' hb =>
    ⟨(hb.cell (p := ⟨gg, og + 0, none⟩) hgg).trans cg, (hb.cell (p := ⟨gh, oh + 0, none⟩) hgh).trans ch, CT.out.1.later CT.out.2.2 hb, CU.out.1.later CU.out.2.2 hb, ca.later hg1 hb⟩
  have bd : Below w6.heap.size w6 w6.drew := (Below.refl _ w6).drew
  have S0 := SB _ bd
  clear RG RH RA CT CU cg ch ca hgg hgh hg1 C6 F6 K6
  refine region_out (fun W' => W'.cell? ⟨gg, og + 0, none⟩ = some (.int .i64 7) ∧ W'.cell? ⟨gh, oh + 0, none⟩ = some (.int .i64 8) ∧ CellsAt W' bt 0 (M6.vals ⟨4, 0, 0, 0, 0, 0⟩) ∧ CellsAt W' bu 0 (M6.vals ⟨4, 0, 0, 0, 0, 0⟩) ∧ CellsAt W' g1 17 (I4.vals ⟨10, 0, 0, 2⟩)) (by kernel_rfl) ?_
  refine takeD (i := 0) (v := .int .i64 80) 86 rfl rfl (by kernel_rfl) (by kernel_rfl) (by kernel_rfl) (fun _ _ _ h => h) (.inl ⟨by rfl, fun W hW => exec_move _ _ rfl rfl⟩) (S0) ?_
  try simp only [Act.put, List.setIfInBounds_toArray, List.set_cons_zero, List.set_cons_succ]
  refine takeD (i := 1) (v := .bool true) 87 rfl rfl (by kernel_rfl) (by kernel_rfl) (by kernel_rfl) (fun _ _ _ h => h) (.inl ⟨by rfl, fun W hW => exec_eqe _ _ _ _ _ _ rfl rfl rfl rfl⟩) (S0) ?_
  try simp only [Act.put, List.setIfInBounds_toArray, List.set_cons_zero, List.set_cons_succ]
  refine takeD (i := 2) (v := .bool true) 88 rfl rfl (by kernel_rfl) (by kernel_rfl) (by kernel_rfl) (fun _ _ _ h => h) (.inl ⟨by rfl, fun W hW => exec_move _ _ rfl rfl⟩) (S0) ?_
  try simp only [Act.put, List.setIfInBounds_toArray, List.set_cons_zero, List.set_cons_succ]
  refine takeD (i := 3) (v := .int .i64 80) 89 rfl rfl (by kernel_rfl) (by kernel_rfl) (by kernel_rfl) (fun _ _ _ h => h) (.inl ⟨by rfl, fun W hW => exec_move _ _ rfl rfl⟩) (S0) ?_
  try simp only [Act.put, List.setIfInBounds_toArray, List.set_cons_zero, List.set_cons_succ]
  refine takeD (i := 4) (v := .bool true) 90 rfl rfl (by kernel_rfl) (by kernel_rfl) (by kernel_rfl) (fun _ _ _ h => h) (.inl ⟨by rfl, fun W hW => exec_eqe _ _ _ _ _ _ rfl rfl rfl rfl⟩) (S0) ?_
  try simp only [Act.put, List.setIfInBounds_toArray, List.set_cons_zero, List.set_cons_succ]
  refine takeD (i := 5) (v := .bool true) 91 rfl rfl (by kernel_rfl) (by kernel_rfl) (by kernel_rfl) (fun _ _ _ h => h) (.inl ⟨by rfl, fun W hW => exec_pick _ _ _ true _ rfl rfl rfl⟩) (S0) ?_
  try simp only [Act.put, List.setIfInBounds_toArray, List.set_cons_zero, List.set_cons_succ]
  refine takeD (i := 6) (v := .bool true) 92 rfl rfl (by kernel_rfl) (by kernel_rfl) (by kernel_rfl) (fun _ _ _ h => h) (.inl ⟨by rfl, fun W hW => exec_move _ _ rfl rfl⟩) (S0) ?_
  try simp only [Act.put, List.setIfInBounds_toArray, List.set_cons_zero, List.set_cons_succ]
  refine takeD (i := 7) (v := .int .i64 80) 93 rfl rfl (by kernel_rfl) (by kernel_rfl) (by kernel_rfl) (fun _ _ _ h => h) (.inl ⟨by rfl, fun W hW => exec_move _ _ rfl rfl⟩) (S0) ?_
  try simp only [Act.put, List.setIfInBounds_toArray, List.set_cons_zero, List.set_cons_succ]
  refine takeD (i := 8) (v := .bool true) 94 rfl rfl (by kernel_rfl) (by kernel_rfl) (by kernel_rfl) (fun _ _ _ h => h) (.inl ⟨by rfl, fun W hW => exec_eqe _ _ _ _ _ _ rfl rfl rfl rfl⟩) (S0) ?_
  try simp only [Act.put, List.setIfInBounds_toArray, List.set_cons_zero, List.set_cons_succ]
  refine takeD (i := 9) (v := .bool true) 95 rfl rfl (by kernel_rfl) (by kernel_rfl) (by kernel_rfl) (fun _ _ _ h => h) (.inl ⟨by rfl, fun W hW => exec_pick _ _ _ true _ rfl rfl rfl⟩) (S0) ?_
  try simp only [Act.put, List.setIfInBounds_toArray, List.set_cons_zero, List.set_cons_succ]
  refine takeD (i := 10) (v := .bool true) 96 rfl rfl (by kernel_rfl) (by kernel_rfl) (by kernel_rfl) (fun _ _ _ h => h) (.inl ⟨by rfl, fun W hW => exec_move _ _ rfl rfl⟩) (S0) ?_
  try simp only [Act.put, List.setIfInBounds_toArray, List.set_cons_zero, List.set_cons_succ]
  refine takeD (i := 11) (v := .slice (some ⟨gg, og, none⟩) 1 gc3) 97 rfl rfl (by kernel_rfl) (by kernel_rfl) (by kernel_rfl) (fun _ _ _ h => h) (.inl ⟨by rfl, fun W hW => exec_move _ _ rfl rfl⟩) (S0) ?_
  try simp only [Act.put, List.setIfInBounds_toArray, List.set_cons_zero, List.set_cons_succ]
  refine takeD (i := 12) (v := .pointer (some ⟨gg, og + 0, none⟩)) 98 rfl rfl (by kernel_rfl) (by kernel_rfl) (by kernel_rfl) (fun _ _ _ h => h) (.inl ⟨by rfl, fun W hW => exec_ixI _ _ gg og 1 gc3 0 rfl rfl rfl (by omega)⟩) (S0) ?_
  try simp only [Act.put, List.setIfInBounds_toArray, List.set_cons_zero, List.set_cons_succ]
  refine takeD (i := 13) (v := .int .i64 7) 99 rfl rfl (by kernel_rfl) (by kernel_rfl) (by kernel_rfl) (fun _ _ _ h => h) (.inl ⟨by rfl, fun W hW => exec_load1 3 one1 _ rfl gg (og + 0) rfl (.int .i64 7) (hW.1)⟩) (S0) ?_
  try simp only [Act.put, List.setIfInBounds_toArray, List.set_cons_zero, List.set_cons_succ]
  refine takeD (i := 14) (v := .bool true) 100 rfl rfl (by kernel_rfl) (by kernel_rfl) (by kernel_rfl) (fun _ _ _ h => h) (.inl ⟨by rfl, fun W hW => exec_eqi _ _ _ _ _ _ rfl rfl rfl rfl⟩) (S0) ?_
  try simp only [Act.put, List.setIfInBounds_toArray, List.set_cons_zero, List.set_cons_succ]
  refine takeD (i := 15) (v := .bool true) 101 rfl rfl (by kernel_rfl) (by kernel_rfl) (by kernel_rfl) (fun _ _ _ h => h) (.inl ⟨by rfl, fun W hW => exec_pick _ _ _ true _ rfl rfl rfl⟩) (S0) ?_
  try simp only [Act.put, List.setIfInBounds_toArray, List.set_cons_zero, List.set_cons_succ]
  refine takeD (i := 16) (v := .bool true) 102 rfl rfl (by kernel_rfl) (by kernel_rfl) (by kernel_rfl) (fun _ _ _ h => h) (.inl ⟨by rfl, fun W hW => exec_move _ _ rfl rfl⟩) (S0) ?_
  try simp only [Act.put, List.setIfInBounds_toArray, List.set_cons_zero, List.set_cons_succ]
  refine takeD (i := 17) (v := .slice (some ⟨gh, oh, none⟩) 2 gc4) 103 rfl rfl (by kernel_rfl) (by kernel_rfl) (by kernel_rfl) (fun _ _ _ h => h) (.inl ⟨by rfl, fun W hW => exec_move _ _ rfl rfl⟩) (S0) ?_
  try simp only [Act.put, List.setIfInBounds_toArray, List.set_cons_zero, List.set_cons_succ]
  refine takeD (i := 18) (v := .pointer (some ⟨gh, oh + 0, none⟩)) 104 rfl rfl (by kernel_rfl) (by kernel_rfl) (by kernel_rfl) (fun _ _ _ h => h) (.inl ⟨by rfl, fun W hW => exec_ixI _ _ gh oh 2 gc4 0 rfl rfl rfl (by omega)⟩) (S0) ?_
  try simp only [Act.put, List.setIfInBounds_toArray, List.set_cons_zero, List.set_cons_succ]
  refine takeD (i := 19) (v := .int .i64 8) 105 rfl rfl (by kernel_rfl) (by kernel_rfl) (by kernel_rfl) (fun _ _ _ h => h) (.inl ⟨by rfl, fun W hW => exec_load1 3 one1 _ rfl gh (oh + 0) rfl (.int .i64 8) (hW.2.1)⟩) (S0) ?_
  try simp only [Act.put, List.setIfInBounds_toArray, List.set_cons_zero, List.set_cons_succ]
  refine takeD (i := 20) (v := .bool true) 106 rfl rfl (by kernel_rfl) (by kernel_rfl) (by kernel_rfl) (fun _ _ _ h => h) (.inl ⟨by rfl, fun W hW => exec_eqi _ _ _ _ _ _ rfl rfl rfl rfl⟩) (S0) ?_
  try simp only [Act.put, List.setIfInBounds_toArray, List.set_cons_zero, List.set_cons_succ]
  refine takeD (i := 21) (v := .bool true) 107 rfl rfl (by kernel_rfl) (by kernel_rfl) (by kernel_rfl) (fun _ _ _ h => h) (.inl ⟨by rfl, fun W hW => exec_pick _ _ _ true _ rfl rfl rfl⟩) (S0) ?_
  try simp only [Act.put, List.setIfInBounds_toArray, List.set_cons_zero, List.set_cons_succ]
  refine takeD (i := 22) (v := .bool true) 108 rfl rfl (by kernel_rfl) (by kernel_rfl) (by kernel_rfl) (fun _ _ _ h => h) (.inl ⟨by rfl, fun W hW => exec_move _ _ rfl rfl⟩) (S0) ?_
  try simp only [Act.put, List.setIfInBounds_toArray, List.set_cons_zero, List.set_cons_succ]
  refine takeD (i := 23) (v := .agg (M6.vals ⟨4, 0, 0, 0, 0, 0⟩).toArray) 109 rfl rfl (by kernel_rfl) (by kernel_rfl) (by kernel_rfl) (fun _ _ _ h => h) (.inl ⟨by rfl, fun W hW => exec_loadA 23 6 aggM sizM _ rfl bt 0 rfl (M6.vals ⟨4, 0, 0, 0, 0, 0⟩) rfl (hW.2.2.1)⟩) (S0) ?_
  try simp only [Act.put, List.setIfInBounds_toArray, List.set_cons_zero, List.set_cons_succ]
  refine takeD (i := 24) (v := .agg (M6.vals ⟨4, 0, 0, 0, 0, 0⟩).toArray) 110 rfl rfl (by kernel_rfl) (by kernel_rfl) (by kernel_rfl) (fun _ _ _ h => h) (.inl ⟨by rfl, fun W hW => exec_m1 4 rfl (fun _ => rfl)⟩) (S0) ?_
  try simp only [Act.put, List.setIfInBounds_toArray, List.set_cons_zero, List.set_cons_succ]
  refine takeD (i := 25) (v := .bool true) 111 rfl rfl (by kernel_rfl) (by kernel_rfl) (by kernel_rfl) (fun _ _ _ h => h) (.inl ⟨by rfl, fun W hW => exec_eqM _ _ _ ⟨4, 0, 0, 0, 0, 0⟩ ⟨4, 0, 0, 0, 0, 0⟩ _ rfl rfl rfl rfl⟩) (S0) ?_
  try simp only [Act.put, List.setIfInBounds_toArray, List.set_cons_zero, List.set_cons_succ]
  refine takeD (i := 26) (v := .bool true) 112 rfl rfl (by kernel_rfl) (by kernel_rfl) (by kernel_rfl) (fun _ _ _ h => h) (.inl ⟨by rfl, fun W hW => exec_pick _ _ _ true _ rfl rfl rfl⟩) (S0) ?_
  try simp only [Act.put, List.setIfInBounds_toArray, List.set_cons_zero, List.set_cons_succ]
  refine takeD (i := 27) (v := .bool true) 113 rfl rfl (by kernel_rfl) (by kernel_rfl) (by kernel_rfl) (fun _ _ _ h => h) (.inl ⟨by rfl, fun W hW => exec_move _ _ rfl rfl⟩) (S0) ?_
  try simp only [Act.put, List.setIfInBounds_toArray, List.set_cons_zero, List.set_cons_succ]
  refine takeD (i := 28) (v := .agg (M6.vals ⟨4, 0, 0, 0, 0, 0⟩).toArray) 114 rfl rfl (by kernel_rfl) (by kernel_rfl) (by kernel_rfl) (fun _ _ _ h => h) (.inl ⟨by rfl, fun W hW => exec_loadA 23 6 aggM sizM _ rfl bu 0 rfl (M6.vals ⟨4, 0, 0, 0, 0, 0⟩) rfl (hW.2.2.2.1)⟩) (S0) ?_
  try simp only [Act.put, List.setIfInBounds_toArray, List.set_cons_zero, List.set_cons_succ]
  refine takeD (i := 29) (v := .agg (M6.vals ⟨4, 0, 0, 0, 0, 0⟩).toArray) 115 rfl rfl (by kernel_rfl) (by kernel_rfl) (by kernel_rfl) (fun _ _ _ h => h) (.inl ⟨by rfl, fun W hW => exec_m1 4 rfl (fun _ => rfl)⟩) (S0) ?_
  try simp only [Act.put, List.setIfInBounds_toArray, List.set_cons_zero, List.set_cons_succ]
  refine takeD (i := 30) (v := .bool true) 116 rfl rfl (by kernel_rfl) (by kernel_rfl) (by kernel_rfl) (fun _ _ _ h => h) (.inl ⟨by rfl, fun W hW => exec_eqM _ _ _ ⟨4, 0, 0, 0, 0, 0⟩ ⟨4, 0, 0, 0, 0, 0⟩ _ rfl rfl rfl rfl⟩) (S0) ?_
  try simp only [Act.put, List.setIfInBounds_toArray, List.set_cons_zero, List.set_cons_succ]
  refine takeD (i := 31) (v := .bool true) 117 rfl rfl (by kernel_rfl) (by kernel_rfl) (by kernel_rfl) (fun _ _ _ h => h) (.inl ⟨by rfl, fun W hW => exec_pick _ _ _ true _ rfl rfl rfl⟩) (S0) ?_
  try simp only [Act.put, List.setIfInBounds_toArray, List.set_cons_zero, List.set_cons_succ]
  refine takeD (i := 32) (v := .bool true) 118 rfl rfl (by kernel_rfl) (by kernel_rfl) (by kernel_rfl) (fun _ _ _ h => h) (.inl ⟨by rfl, fun W hW => exec_move _ _ rfl rfl⟩) (S0) ?_
  try simp only [Act.put, List.setIfInBounds_toArray, List.set_cons_zero, List.set_cons_succ]
  refine takeD (i := 33) (v := .int .i64 0) 119 rfl rfl (by kernel_rfl) (by kernel_rfl) (by kernel_rfl) (fun _ _ _ h => h) (.inl ⟨by rfl, fun W hW => exec_move _ _ rfl rfl⟩) (S0) ?_
  try simp only [Act.put, List.setIfInBounds_toArray, List.set_cons_zero, List.set_cons_succ]
  refine takeD (i := 34) (v := .bool true) 120 rfl rfl (by kernel_rfl) (by kernel_rfl) (by kernel_rfl) (fun _ _ _ h => h) (.inl ⟨by rfl, fun W hW => exec_eqe _ _ _ _ _ _ rfl rfl rfl rfl⟩) (S0) ?_
  try simp only [Act.put, List.setIfInBounds_toArray, List.set_cons_zero, List.set_cons_succ]
  refine takeD (i := 35) (v := .bool true) 121 rfl rfl (by kernel_rfl) (by kernel_rfl) (by kernel_rfl) (fun _ _ _ h => h) (.inl ⟨by rfl, fun W hW => exec_pick _ _ _ true _ rfl rfl rfl⟩) (S0) ?_
  try simp only [Act.put, List.setIfInBounds_toArray, List.set_cons_zero, List.set_cons_succ]
  refine takeD (i := 36) (v := .bool true) 122 rfl rfl (by kernel_rfl) (by kernel_rfl) (by kernel_rfl) (fun _ _ _ h => h) (.inl ⟨by rfl, fun W hW => exec_move _ _ rfl rfl⟩) (S0) ?_
  try simp only [Act.put, List.setIfInBounds_toArray, List.set_cons_zero, List.set_cons_succ]
  refine takeD (i := 37) (v := .slice (some ⟨g1, 0, none⟩) 1 ac1) 123 rfl rfl (by kernel_rfl) (by kernel_rfl) (by kernel_rfl) (fun _ _ _ h => h) (.inl ⟨by rfl, fun W hW => exec_move _ _ rfl rfl⟩) (S0) ?_
  try simp only [Act.put, List.setIfInBounds_toArray, List.set_cons_zero, List.set_cons_succ]
  refine takeD (i := 38) (v := .pointer (some ⟨g1, 0, none⟩)) 124 rfl rfl (by kernel_rfl) (by kernel_rfl) (by kernel_rfl) (fun _ _ _ h => h) (.inl ⟨by rfl, fun W hW => exec_ixA _ _ g1 1 ac1 0 rfl rfl rfl (by omega)⟩) (S0) ?_
  try simp only [Act.put, List.setIfInBounds_toArray, List.set_cons_zero, List.set_cons_succ]
  refine takeD (i := 39) (v := .pointer (some ⟨g1, 17, none⟩)) 125 rfl rfl (by kernel_rfl) (by kernel_rfl) (by kernel_rfl) (fun _ _ _ h => h) (.inl ⟨by rfl, fun W hW => exec_fieldO 27 _ 4 g1 0 17 rfl rfl (fun w => by kernel_rfl)⟩) (S0) ?_
  try simp only [Act.put, List.setIfInBounds_toArray, List.set_cons_zero, List.set_cons_succ]
  refine takeD (i := 40) (v := .agg (I4.vals ⟨10, 0, 0, 2⟩).toArray) 126 rfl rfl (by kernel_rfl) (by kernel_rfl) (by kernel_rfl) (fun _ _ _ h => h) (.inl ⟨by rfl, fun W hW => exec_loadA 25 4 aggI sizI _ rfl g1 17 rfl (I4.vals ⟨10, 0, 0, 2⟩) rfl (hW.2.2.2.2)⟩) (S0) ?_
  try simp only [Act.put, List.setIfInBounds_toArray, List.set_cons_zero, List.set_cons_succ]
  refine callD 41 127 (by kernel_rfl) rfl rfl (by rfl) 14 #[.int .u8 2] (by kernel_rfl) (fun v w9 => v = .agg (I4.vals ⟨10, 0, 0, 2⟩).toArray ∧ Below w6.heap.size w6.drew w9) ((ip_any 2 w6.drew).mono (fun e w' h => ⟨_, h.1, rfl, h.2⟩)) ?_
  rintro v w7 ⟨rfl, b7'⟩
  have b7 : Below w6.heap.size w6 w7 := bd.trans b7'
  have S7 := SB _ b7
  refine ⟨S7, ?_⟩
  simp only [Act.put, List.setIfInBounds_toArray, List.set_cons_zero, List.set_cons_succ]
  refine takeD (i := 42) (v := .bool true) 128 rfl rfl (by kernel_rfl) (by kernel_rfl) (by kernel_rfl) (fun _ _ _ h => h) (.inl ⟨by rfl, fun W hW => exec_eqI _ _ _ ⟨10, 0, 0, 2⟩ ⟨10, 0, 0, 2⟩ _ rfl rfl rfl rfl⟩) (S7) ?_
  try simp only [Act.put, List.setIfInBounds_toArray, List.set_cons_zero, List.set_cons_succ]
  refine takeD (i := 43) (v := .bool true) 129 rfl rfl (by kernel_rfl) (by kernel_rfl) (by kernel_rfl) (fun _ _ _ h => h) (.inl ⟨by rfl, fun W hW => exec_pick _ _ _ true _ rfl rfl rfl⟩) (S7) ?_
  try simp only [Act.put, List.setIfInBounds_toArray, List.set_cons_zero, List.set_cons_succ]
  refine takeD (i := 44) (v := .bool true) 0 rfl rfl (by kernel_rfl) (by kernel_rfl) (by kernel_rfl) (fun _ _ _ h => h) (.inl ⟨by rfl, fun W hW => exec_assign _ _ rfl rfl⟩) (S7) ?_
  try simp only [Act.put, List.setIfInBounds_toArray, List.set_cons_zero]
  refine wpAnyH_done (by kernel_rfl) ?_ _
  have BE : Hid (Below n w w7) := B6.out.trans (b7.mono Z6.out)
  clear S0 SB bd b7 b7' S7
  go_wp2
  go_ret
  exact ⟨rfl, BE.out⟩
end Go.Proofs.Ytdcpnjlldocdcaa
