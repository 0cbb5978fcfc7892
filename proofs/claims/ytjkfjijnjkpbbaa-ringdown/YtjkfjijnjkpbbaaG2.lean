
/-
  leave: with letGo, with receive's closure.
-/
import Derived.Test.YtjkfjijnjkpbbaaG1
namespace Go.Proofs.Ytjkfjijnjkpbbaa
open Go.RowKit

theorem cell_new (w : World) (v : Value) (t : TypeId) : (w.alloc (.cells #[v] t)).cell? ⟨w.heap.size, 0, none⟩ = some v := by
  rw [cell_of_row _ w.heap.size 0 _ t (0, 0) (heap_alloc_new w _)]; rfl
theorem frozen_new (w : World) (cs : Array Value) (t : TypeId) (k : Nat) : (w.alloc (.cells cs t)).frozen? ⟨w.heap.size, k, none⟩ = false := by
  unfold World.frozen?
  rw [heap_alloc_new w]
  simp

/-- between the calls of leave's closure: do's value lies in block g, the count in block g + 1 -/
structure Lvlet (I : Nat → World → Prop) (r o g : Nat) (s : Sd) (F : Value) (k : Nat) (W : World) : Prop where
  i : I k W
  sd : SdAt W r o s
  fz : ∀ j, W.frozen? ⟨r, j, none⟩ = false
  d : W.cell? ⟨g, 0, none⟩ = some F
  n : W.cell? ⟨g + 1, 0, none⟩ = some (.int .i64 (k : Int))
  nf : W.frozen? ⟨g + 1, 0, none⟩ = false

set_option maxRecDepth 100000 in
set_option maxHeartbeats 4000000 in
theorem leave1_let {I : Nat → World → Prop} {r o g : Nat} {s : Sd} {pr : Value} {k : Nat} {W : World} (hrg : r < g) (hk : k < 16) (h : Lvlet I r o g s (.func (.func 62) #[pr] #[]) k W) (at_ : Nat) (id : Int)
    (hS : ∀ k W W', I k W → But (fun x => x = g ∨ x = g + 1) W W' → I k W')
    (hF : ∀ W, I k W → g + 1 < W.heap.size → Calls Try.prog 62 #[pr, .int .i64 (at_ : Int), .int .i64 id] W fun e W' => e = .returned (.tuple #[]) ∧ I (k + 1) W' ∧ But (fun x => x ≠ r ∧ x ≠ g ∧ x ≠ g + 1) W W') :
    Calls Try.prog 86 #[.int .i64 (at_ : Int), .int .i64 id, .pointer (some ⟨g, 0, none⟩), .pointer (some ⟨g + 1, 0, none⟩)] W fun e W' => e = .returned (.tuple #[]) ∧ Lvlet I r o g s (.func (.func 62) #[pr] #[]) (k + 1) W' := by
  have H := hide h
  have X := hide (hF W h.i (World.block_lt_of_cell? W _ h.n))
  have HS := hide hS
  have d := h.d
  have zk : (k : Int) < 16 := by omega
  clear h hS hF
  go_enter Try.func86, Try.ntmps86
  go_wp2_with fail
  refine X.out.mono ?_
  rintro _ w1 ⟨rfl, hi, hb⟩
  have g0 : g < W.heap.size := World.block_lt_of_cell? W _ H.out.d
  have g1 : g + 1 < W.heap.size := World.block_lt_of_cell? W _ H.out.n
  have n1 : w1.cell? ⟨g + 1, 0, none⟩ = some (.int .i64 (k : Int)) := (hb.cell (p := ⟨g + 1, 0, none⟩) g1 (fun e => e.2.2 rfl)).trans H.out.n
  have f1 : w1.frozen? ⟨g + 1, 0, none⟩ = false := (hb.frozen (p := ⟨g + 1, 0, none⟩) g1 (fun e => e.2.2 rfl)).trans H.out.nf
  have L1 : Hid (Lvlet I r o g s (.func (.func 62) #[pr] #[]) (k + 1) (w1.setCell ⟨g + 1, 0, none⟩ (.int .i64 ((k : Int) + 1)))) := by
    have hr : r < W.heap.size := H.out.sd.lt
    have b2 : But (fun x => x ≠ r ∧ x ≠ g) W (w1.setCell ⟨g + 1, 0, none⟩ (.int .i64 ((k : Int) + 1))) := (hb.mono (fun x hx => ⟨hx.1, hx.2.1⟩)).setCell (p := ⟨g + 1, 0, none⟩) (.inr ⟨by show g + 1 ≠ r; omega, by show g + 1 ≠ g; omega⟩) _
    refine ⟨HS.out _ _ _ hi ((But.refl _ _).setCell (p := ⟨g + 1, 0, none⟩) (.inr (.inr rfl)) _), H.out.sd.but b2 (fun e => e.1 rfl), fun j => (b2.frozen (p := ⟨r, j, none⟩) hr (fun e => e.1 rfl)).trans (H.out.fz j), (b2.cell (p := ⟨g, 0, none⟩) g0 (fun e => e.2 rfl)).trans H.out.d, ?_, (World.frozen?_setCell ..).trans f1⟩
    rw [World.cell?_setCell_same' _ _ _ (by rw [n1]; rfl)]
    simp
  clear hb hi g0 g1 d
  go_wp2
  go_end0
  exact ⟨rfl, L1.out⟩

set_option maxRecDepth 100000 in
set_option maxHeartbeats 4000000 in
theorem leave_let {w : World} {r o : Nat} {s : Sd} (e : Nat) (he : e < 16) (pr : Value) (I : Nat → World → Prop) (hsd : SdAt w r o s) (hfz : ∀ j, w.frozen? ⟨r, j, none⟩ = false) (h0 : I 0 w)
    (hS : ∀ k W W', I k W → But (fun x => x = w.heap.size ∨ x = w.heap.size + 1) W W' → I k W')
    (hF : ∀ k W, k < s.upto e → I k W → w.heap.size + 1 < W.heap.size → Calls Try.prog 62 #[pr, .int .i64 (((s.first + k) % 16 : Nat) : Int), .int .i64 (s.ids[k]?.getD 0)] W fun e W' => e = .returned (.tuple #[]) ∧ I (k + 1) W' ∧ But (fun x => x ≠ r ∧ x ≠ w.heap.size ∧ x ≠ w.heap.size + 1) W W') :
    Calls Try.prog 61 #[.pointer (some ⟨r, o, none⟩), .int .i64 (e : Int), .func (.func 62) #[pr] #[]] w fun x w' => x = .returned (.tuple #[]) ∧ ∃ w1, I (s.upto e) w1 ∧ SdAt w1 r o s ∧ Far r o w1 w' ∧ SdAt w' r o (s.cut (s.upto e)) := by
  have hr : r < w.heap.size := hsd.lt
  have f16 := hsd.f16
  have m15 := hsd.m15
  obtain ⟨W0, hW0⟩ : ∃ W0, W0 = (w.alloc (.cells #[.func (.func 62) #[pr] #[]] 117)).alloc (.cells #[.int .i64 0] 3) := ⟨_, rfl⟩
  have s1 : (w.alloc (.cells #[.func (.func 62) #[pr] #[]] 117)).heap.size = w.heap.size + 1 := by simp
  have b0 : But (fun x => x = w.heap.size ∨ x = w.heap.size + 1) w W0 := by rw [hW0]; exact ((But.refl _ _).alloc _).alloc _
  have d0 : W0.cell? ⟨w.heap.size, 0, none⟩ = some (.func (.func 62) #[pr] #[]) := by
    rw [hW0]
    exact (((But.refl (fun _ => False) _).alloc _).cell (p := ⟨w.heap.size, 0, none⟩) (by simp) id).trans (cell_new w _ _)
  have n0 : W0.cell? ⟨w.heap.size + 1, 0, none⟩ = some (.int .i64 0) := by
    rw [hW0, ← s1]; exact cell_new _ _ _
  have nf0 : W0.frozen? ⟨w.heap.size + 1, 0, none⟩ = false := by
    rw [hW0, ← s1]; exact frozen_new _ _ _ _
  have L0 : Hid (Lvlet I r o w.heap.size s (.func (.func 62) #[pr] #[]) 0 W0) :=
    ⟨hS 0 _ _ h0 b0, hsd.but b0 (by omega), fun j => (b0.frozen (p := ⟨r, j, none⟩) hr (by show ¬ (r = w.heap.size ∨ r = w.heap.size + 1); omega)).trans (hfz j), d0, n0, nf0⟩
  have hu := s.upto_le e
  have X := hide (each_leave (w := W0) (r := r) (o := o) (s := s) e he (.pointer (some ⟨w.heap.size, 0, none⟩)) (.pointer (some ⟨w.heap.size + 1, 0, none⟩)) (Lvlet I r o w.heap.size s (.func (.func 62) #[pr] #[])) (fun k W h => h.sd) L0.out
    (fun k W hk h => leave1_let hr (by omega) h _ _ hS (fun W' hi hz => hF k W' hk hi hz)))
  clear L0 h0 hS hF d0 b0
  have NF := hide nf0
  have z0 : (s.first : Int) < 16 := by omega
  have z1 : (s.ids.length : Int) ≤ 15 := by omega
  have UL := hide hu
  generalize s.upto e = u at *
  have hmf : ∀ (fn : Fn) (first cap : Array Value) (w : World), (Instr.makeFunc fn first cap).run Try.prog w = .ok (.func fn first cap) w := fun _ _ _ _ => rfl
  go_enter Try.func61, Try.ntmps61
  go_wp2_with fail
  rw [← hW0]
  refine X.out.mono ?_
  rintro _ w1 ⟨rfl, hL⟩
  have c1 := hL.sd.first
  have c2 := hL.sd.many
  have c3 := hL.n
  have c4 := hL.fz (o + 16)
  have c5 := hL.fz (o + 17)
  have hl := UL.out
  have ne : r ≠ w.heap.size + 1 := by omega
  have zu : (u : Int) ≤ (s.ids.length : Int) := by omega
  have EM : ((s.first : Int) + (u : Int)) % 16 = (((s.first + u) % 16 : Nat) : Int) := by omega
  have ES : (s.ids.length : Int) - (u : Int) = ((s.ids.length - u : Nat) : Int) := by omega
  have LL := hide hL
  have HEM := hide EM
  have HES := hide ES
  clear EM ES hL X hW0 n0 nf0 hsd hfz
  go_upto_region 3 with fail
  go_cut [] (fun wc => Hid (∃ n, wc = (w1.drewN n).setCell ⟨r, o + 16, none⟩ (.int .i64 (((s.first + u) % 16 : Nat) : Int))))
  case first =>
    go_region
    all_goals go_wp2
    all_goals go_meet
    all_goals (rw [HEM.out]; exact ⟨_, rfl⟩)
  case rest =>
    obtain ⟨n, hn⟩ := hcut.out
    subst hn
    have c2' : ((w1.drewN n).setCell ⟨r, o + 16, none⟩ (.int .i64 (((s.first + u) % 16 : Nat) : Int))).cell? ⟨r, o + 17, none⟩ = some (.int .i64 (s.ids.length : Int)) := by rw [setCell_out (by omega)]; exact c2
    have c3' : ((w1.drewN n).setCell ⟨r, o + 16, none⟩ (.int .i64 (((s.first + u) % 16 : Nat) : Int))).cell? ⟨w.heap.size + 1, 0, none⟩ = some (.int .i64 (u : Int)) := by rw [World.cell?_setCell_other _ _ _ _ (by intro q; cases q <;> exact ne rfl)]; exact c3
    have c5' : ((w1.drewN n).setCell ⟨r, o + 16, none⟩ (.int .i64 (((s.first + u) % 16 : Nat) : Int))).frozen? ⟨r, o + 17, none⟩ = false := (World.frozen?_setCell ..).trans c5
    have b5 : Hid (Far r o w1 ((w1.drewN n).setCell ⟨r, o + 16, none⟩ (.int .i64 (((s.first + u) % 16 : Nat) : Int)))) := ((Far.refl r o w1).drewN n).set (by omega) (by omega) _
    have S5 : Hid (∀ m, SdAt ((((w1.drewN n).setCell ⟨r, o + 16, none⟩ (.int .i64 (((s.first + u) % 16 : Nat) : Int))).drewN m).setCell ⟨r, o + 17, none⟩ (.int .i64 ((s.ids.length - u : Nat) : Int))) r o (s.cut u)) := fun m => ((LL.out.sd.drewN n).left u hl).keep (fun _ _ => rfl)
    generalize (w1.drewN n).setCell ⟨r, o + 16, none⟩ (.int .i64 (((s.first + u) % 16 : Nat) : Int)) = w2 at *
    clear hcut c1 c2 c3 c4 c5
    go_upto_region 4 with fail
    go_region
    all_goals go_end0
    all_goals (rw [HES.out]; exact ⟨rfl, w1, LL.out.i, LL.out.sd, (b5.out.drewN _).set (by omega) (by omega) _, S5.out _⟩)

/-- between the calls of leave's closure: do's value lies in block g, the count in block g + 1 -/
structure Lvrec (I : Nat → World → Prop) (r o g : Nat) (s : Sd) (F : Value) (k : Nat) (W : World) : Prop where
  i : I k W
  sd : SdAt W r o s
  fz : ∀ j, W.frozen? ⟨r, j, none⟩ = false
  d : W.cell? ⟨g, 0, none⟩ = some F
  n : W.cell? ⟨g + 1, 0, none⟩ = some (.int .i64 (k : Int))
  nf : W.frozen? ⟨g + 1, 0, none⟩ = false

set_option maxRecDepth 100000 in
set_option maxHeartbeats 4000000 in
theorem leave1_rec {I : Nat → World → Prop} {r o g : Nat} {s : Sd} {pr pc : Value} {k : Nat} {W : World} (hrg : r < g) (hk : k < 16) (h : Lvrec I r o g s (.func (.func 87) #[] #[pr, pc]) k W) (at_ : Nat) (id : Int)
    (hS : ∀ k W W', I k W → But (fun x => x = g ∨ x = g + 1) W W' → I k W')
    (hF : ∀ W, I k W → g + 1 < W.heap.size → Calls Try.prog 87 #[.int .i64 (at_ : Int), .int .i64 id, pr, pc] W fun e W' => e = .returned (.tuple #[]) ∧ I (k + 1) W' ∧ But (fun x => x ≠ r ∧ x ≠ g ∧ x ≠ g + 1) W W') :
    Calls Try.prog 86 #[.int .i64 (at_ : Int), .int .i64 id, .pointer (some ⟨g, 0, none⟩), .pointer (some ⟨g + 1, 0, none⟩)] W fun e W' => e = .returned (.tuple #[]) ∧ Lvrec I r o g s (.func (.func 87) #[] #[pr, pc]) (k + 1) W' := by
  have H := hide h
  have X := hide (hF W h.i (World.block_lt_of_cell? W _ h.n))
  have HS := hide hS
  have d := h.d
  have zk : (k : Int) < 16 := by omega
  clear h hS hF
  go_enter Try.func86, Try.ntmps86
  go_wp2_with fail
  refine X.out.mono ?_
  rintro _ w1 ⟨rfl, hi, hb⟩
  have g0 : g < W.heap.size := World.block_lt_of_cell? W _ H.out.d
  have g1 : g + 1 < W.heap.size := World.block_lt_of_cell? W _ H.out.n
  have n1 : w1.cell? ⟨g + 1, 0, none⟩ = some (.int .i64 (k : Int)) := (hb.cell (p := ⟨g + 1, 0, none⟩) g1 (fun e => e.2.2 rfl)).trans H.out.n
  have f1 : w1.frozen? ⟨g + 1, 0, none⟩ = false := (hb.frozen (p := ⟨g + 1, 0, none⟩) g1 (fun e => e.2.2 rfl)).trans H.out.nf
  have L1 : Hid (Lvrec I r o g s (.func (.func 87) #[] #[pr, pc]) (k + 1) (w1.setCell ⟨g + 1, 0, none⟩ (.int .i64 ((k : Int) + 1)))) := by
    have hr : r < W.heap.size := H.out.sd.lt
    have b2 : But (fun x => x ≠ r ∧ x ≠ g) W (w1.setCell ⟨g + 1, 0, none⟩ (.int .i64 ((k : Int) + 1))) := (hb.mono (fun x hx => ⟨hx.1, hx.2.1⟩)).setCell (p := ⟨g + 1, 0, none⟩) (.inr ⟨by show g + 1 ≠ r; omega, by show g + 1 ≠ g; omega⟩) _
    refine ⟨HS.out _ _ _ hi ((But.refl _ _).setCell (p := ⟨g + 1, 0, none⟩) (.inr (.inr rfl)) _), H.out.sd.but b2 (fun e => e.1 rfl), fun j => (b2.frozen (p := ⟨r, j, none⟩) hr (fun e => e.1 rfl)).trans (H.out.fz j), (b2.cell (p := ⟨g, 0, none⟩) g0 (fun e => e.2 rfl)).trans H.out.d, ?_, (World.frozen?_setCell ..).trans f1⟩
    rw [World.cell?_setCell_same' _ _ _ (by rw [n1]; rfl)]
    simp
  clear hb hi g0 g1 d
  go_wp2
  go_end0
  exact ⟨rfl, L1.out⟩

set_option maxRecDepth 100000 in
set_option maxHeartbeats 4000000 in
theorem leave_rec {w : World} {r o : Nat} {s : Sd} (e : Nat) (he : e < 16) (pr pc : Value) (I : Nat → World → Prop) (hsd : SdAt w r o s) (hfz : ∀ j, w.frozen? ⟨r, j, none⟩ = false) (h0 : I 0 w)
    (hS : ∀ k W W', I k W → But (fun x => x = w.heap.size ∨ x = w.heap.size + 1) W W' → I k W')
    (hF : ∀ k W, k < s.upto e → I k W → w.heap.size + 1 < W.heap.size → Calls Try.prog 87 #[.int .i64 (((s.first + k) % 16 : Nat) : Int), .int .i64 (s.ids[k]?.getD 0), pr, pc] W fun e W' => e = .returned (.tuple #[]) ∧ I (k + 1) W' ∧ But (fun x => x ≠ r ∧ x ≠ w.heap.size ∧ x ≠ w.heap.size + 1) W W') :
    Calls Try.prog 61 #[.pointer (some ⟨r, o, none⟩), .int .i64 (e : Int), .func (.func 87) #[] #[pr, pc]] w fun x w' => x = .returned (.tuple #[]) ∧ ∃ w1, I (s.upto e) w1 ∧ SdAt w1 r o s ∧ Far r o w1 w' ∧ SdAt w' r o (s.cut (s.upto e)) := by
  have hr : r < w.heap.size := hsd.lt
  have f16 := hsd.f16
  have m15 := hsd.m15
  obtain ⟨W0, hW0⟩ : ∃ W0, W0 = (w.alloc (.cells #[.func (.func 87) #[] #[pr, pc]] 117)).alloc (.cells #[.int .i64 0] 3) := ⟨_, rfl⟩
  have s1 : (w.alloc (.cells #[.func (.func 87) #[] #[pr, pc]] 117)).heap.size = w.heap.size + 1 := by simp
  have b0 : But (fun x => x = w.heap.size ∨ x = w.heap.size + 1) w W0 := by rw [hW0]; exact ((But.refl _ _).alloc _).alloc _
  have d0 : W0.cell? ⟨w.heap.size, 0, none⟩ = some (.func (.func 87) #[] #[pr, pc]) := by
    rw [hW0]
    exact (((But.refl (fun _ => False) _).alloc _).cell (p := ⟨w.heap.size, 0, none⟩) (by simp) id).trans (cell_new w _ _)
  have n0 : W0.cell? ⟨w.heap.size + 1, 0, none⟩ = some (.int .i64 0) := by
    rw [hW0, ← s1]; exact cell_new _ _ _
  have nf0 : W0.frozen? ⟨w.heap.size + 1, 0, none⟩ = false := by
    rw [hW0, ← s1]; exact frozen_new _ _ _ _
  have L0 : Hid (Lvrec I r o w.heap.size s (.func (.func 87) #[] #[pr, pc]) 0 W0) :=
    ⟨hS 0 _ _ h0 b0, hsd.but b0 (by omega), fun j => (b0.frozen (p := ⟨r, j, none⟩) hr (by show ¬ (r = w.heap.size ∨ r = w.heap.size + 1); omega)).trans (hfz j), d0, n0, nf0⟩
  have hu := s.upto_le e
  have X := hide (each_leave (w := W0) (r := r) (o := o) (s := s) e he (.pointer (some ⟨w.heap.size, 0, none⟩)) (.pointer (some ⟨w.heap.size + 1, 0, none⟩)) (Lvrec I r o w.heap.size s (.func (.func 87) #[] #[pr, pc])) (fun k W h => h.sd) L0.out
    (fun k W hk h => leave1_rec hr (by omega) h _ _ hS (fun W' hi hz => hF k W' hk hi hz)))
  clear L0 h0 hS hF d0 b0
  have NF := hide nf0
  have z0 : (s.first : Int) < 16 := by omega
  have z1 : (s.ids.length : Int) ≤ 15 := by omega
  have UL := hide hu
  generalize s.upto e = u at *
  have hmf : ∀ (fn : Fn) (first cap : Array Value) (w : World), (Instr.makeFunc fn first cap).run Try.prog w = .ok (.func fn first cap) w := fun _ _ _ _ => rfl
  go_enter Try.func61, Try.ntmps61
  go_wp2_with fail
  rw [← hW0]
  refine X.out.mono ?_
  rintro _ w1 ⟨rfl, hL⟩
  have c1 := hL.sd.first
  have c2 := hL.sd.many
  have c3 := hL.n
  have c4 := hL.fz (o + 16)
  have c5 := hL.fz (o + 17)
  have hl := UL.out
  have ne : r ≠ w.heap.size + 1 := by omega
  have zu : (u : Int) ≤ (s.ids.length : Int) := by omega
  have EM : ((s.first : Int) + (u : Int)) % 16 = (((s.first + u) % 16 : Nat) : Int) := by omega
  have ES : (s.ids.length : Int) - (u : Int) = ((s.ids.length - u : Nat) : Int) := by omega
  have LL := hide hL
  have HEM := hide EM
  have HES := hide ES
  clear EM ES hL X hW0 n0 nf0 hsd hfz
  go_upto_region 3 with fail
  go_cut [] (fun wc => Hid (∃ n, wc = (w1.drewN n).setCell ⟨r, o + 16, none⟩ (.int .i64 (((s.first + u) % 16 : Nat) : Int))))
  case first =>
    go_region
    all_goals go_wp2
    all_goals go_meet
    all_goals (rw [HEM.out]; exact ⟨_, rfl⟩)
  case rest =>
    obtain ⟨n, hn⟩ := hcut.out
    subst hn
    have c2' : ((w1.drewN n).setCell ⟨r, o + 16, none⟩ (.int .i64 (((s.first + u) % 16 : Nat) : Int))).cell? ⟨r, o + 17, none⟩ = some (.int .i64 (s.ids.length : Int)) := by rw [setCell_out (by omega)]; exact c2
    have c3' : ((w1.drewN n).setCell ⟨r, o + 16, none⟩ (.int .i64 (((s.first + u) % 16 : Nat) : Int))).cell? ⟨w.heap.size + 1, 0, none⟩ = some (.int .i64 (u : Int)) := by rw [World.cell?_setCell_other _ _ _ _ (by intro q; cases q <;> exact ne rfl)]; exact c3
    have c5' : ((w1.drewN n).setCell ⟨r, o + 16, none⟩ (.int .i64 (((s.first + u) % 16 : Nat) : Int))).frozen? ⟨r, o + 17, none⟩ = false := (World.frozen?_setCell ..).trans c5
    have b5 : Hid (Far r o w1 ((w1.drewN n).setCell ⟨r, o + 16, none⟩ (.int .i64 (((s.first + u) % 16 : Nat) : Int)))) := ((Far.refl r o w1).drewN n).set (by omega) (by omega) _
    have S5 : Hid (∀ m, SdAt ((((w1.drewN n).setCell ⟨r, o + 16, none⟩ (.int .i64 (((s.first + u) % 16 : Nat) : Int))).drewN m).setCell ⟨r, o + 17, none⟩ (.int .i64 ((s.ids.length - u : Nat) : Int))) r o (s.cut u)) := fun m => ((LL.out.sd.drewN n).left u hl).keep (fun _ _ => rfl)
    generalize (w1.drewN n).setCell ⟨r, o + 16, none⟩ (.int .i64 (((s.first + u) % 16 : Nat) : Int)) = w2 at *
    clear hcut c1 c2 c3 c4 c5
    go_upto_region 4 with fail
    go_region
    all_goals go_end0
    all_goals (rw [HES.out]; exact ⟨rfl, w1, LL.out.i, LL.out.sd, (b5.out.drewN _).set (by omega) (by omega) _, S5.out _⟩)
end Go.Proofs.Ytjkfjijnjkpbbaa
