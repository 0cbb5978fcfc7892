
/-
  RingDown, in numbers. RingDown: its walk.
-/
import Derived.Test.YtjkfjijnjkpbbaaS25
import Derived.Deep.RegionHeld3
namespace Go.Proofs.Ytjkfjijnjkpbbaa
open Go.RowKit

/-- a buffer that was taken and says b -/
def dnB (n : Nat) (B : Nat → Buf) (i : Nat) (b : List Int) : Nat → Buf := stB n (upd B i ⟨1, [], []⟩) (i : Int) b
theorem dnB_at {n : Nat} {B : Nat → Buf} {i : Nat} {b : List Int} (hi : i < n) (hb : b.length ≤ 200) : dnB n B i b i = ⟨1, [], b⟩ := by
  unfold dnB
  rw [stB_of hi (by rw [upd_same]) (by omega), upd_same, upd_same]

theorem post_r (D : Dev) (v : Int) (k : Nat) (hk : k ≠ 5) : (D.post v).r k = D.r k := upd_other _ _ _ _ hk

/-- what Send leaves of a buffer: its bytes -/
theorem sdB_same {n : Nat} {D : Dev} {B : Nat → Buf} {s : Sd} {id : Int} (j : Nat) : (sdB n D B s id j).head = (B j).head ∧ (sdB n D B s id j).data = (B j).data := by
  unfold sdB; split
  · unfold hoB; split
    · by_cases e : j = id.toNat
      · subst e; rw [upd_same]; exact ⟨rfl, rfl⟩
      · rw [upd_other _ _ _ _ e]; exact ⟨rfl, rfl⟩
    · exact ⟨rfl, rfl⟩
  · exact ⟨rfl, rfl⟩

theorem flF_r {n : Nat} {x : Fl} (k : Nat) (hk : k ≠ 3) : (flF n x).D.r k = x.D.r k := by
  unfold flF
  show Dev.r (if _ then _ else _) k = _
  split
  · unfold Dev.wrD
    simp
    split
    · show upd (flN n 15 x).D.r 3 _ k = _
      rw [upd_other _ _ _ _ hk, flN_r]
    · rw [flN_r]
  · rw [flN_r]

/-- when the link has gone down, and the ring is polled -/
theorem down_facts {n : Nat} {X : Rg} {hl : Nat → Nat} {g i : Nat} {b : List Int} (h : Hz n X hl g) (up : X.D.r 1 = 1) (hg : gt n X.B = some i) (hb2 : b.length ≤ 200) :
    ∀ X1 X2 X3 X4, X1 = (⟨X.D, dnB n X.B i b, X.s, X.c⟩ : Rg) → X2 = (⟨sdD n X1.D X1.B X1.s (i : Int), sdB n X1.D X1.B X1.s (i : Int), sdS n X1.D X1.B X1.s (i : Int), X1.c⟩ : Rg) → X3 = (⟨X2.D.lkD false, X2.B, X2.s, X2.c⟩ : Rg) → X4 = X3.poll n →
      (∃ hl3 g3, Hz n X3 hl3 g3) ∧ X3.told = [] ∧ (∃ hl4, Hz n X4 hl4 0) ∧ X4.s = sd0 ∧ X4.B i = ⟨1, [], b⟩ ∧ X4.D.r 1 = 0 ∧ X4.D.r 4 = 0 ∧ X4.D.r 5 = 0 ∧ usd n X4.B (i : Int) = true := by
  rintro X1 X2 X3 X4 rfl e2 e3 e4
  obtain ⟨hi, h0, _⟩ := gt_some hg
  have hB := dnB_at (B := X.B) hi hb2
  have tk : Tk n X ⟨X.D, dnB n X.B i b, X.s, X.c⟩ i := ⟨hg, rfl, rfl, rfl, fun j hj => by show dnB n X.B i b j = _; unfold dnB; rw [stB_other hj, upd_other _ _ _ _ hj], by show (dnB n X.B i b i).refs = 1; rw [hB], by show (dnB n X.B i b i).head.length ≤ 104; rw [hB]; exact Nat.zero_le _⟩
  have z1 := h.took tk
  have hl0 : hl i = 0 := (h.free hi h0).2.2
  have z2 : Hz n X2 (upd hl i (hl i + 1)) g := by
    rw [e2]
    rcases z1.sends (i : Int) with ⟨_, _, z⟩ | ⟨_, z⟩
    · exact z
    · exact z
  have b2 : (X2.B i).head = [] ∧ (X2.B i).data = b := by
    rw [e2]
    have := sdB_same (n := n) (D := X.D) (B := dnB n X.B i b) (s := X.s) (id := (i : Int)) i
    rw [hB] at this
    exact this
  have r2 : X2.D.r 1 = 1 := by rw [e2]; exact (sd_r1 _).trans up
  have z3 : Hz n X3 (upd hl i (hl i + 1)) g := by rw [e3]; exact z2.links false
  have eD : X2.D.lkD false = { X2.D with r := upd (upd X2.D.r 1 0) 6 (evor (X2.D.r 6) 4) } := by unfold Dev.lkD; rw [if_neg (by rw [r2]; decide)]; rfl
  have r31 : X3.D.r 1 = 0 := by rw [e3]; show (X2.D.lkD false).r 1 = 0; rw [eD]; show upd (upd X2.D.r 1 0) 6 (evor (X2.D.r 6) 4) 1 = 0; rw [upd_other _ _ _ _ (by omega), upd_same]
  have r36 : X3.D.r 6 / 4 % 2 = 1 := by
    rw [e3]; show (X2.D.lkD false).r 6 / 4 % 2 = 1; rw [eD]; show upd (upd X2.D.r 1 0) 6 (evor (X2.D.r 6) 4) 6 / 4 % 2 = 1
    rw [upd_same]
    have ev := z2.ok.ev
    have : X2.D.r 6 = 0 ∨ X2.D.r 6 = 1 ∨ X2.D.r 6 = 2 ∨ X2.D.r 6 = 3 ∨ X2.D.r 6 = 4 ∨ X2.D.r 6 = 5 ∨ X2.D.r 6 = 6 ∨ X2.D.r 6 = 7 := by omega
    rcases this with e | e | e | e | e | e | e | e <;> rw [e] <;> decide
  have hd : X3.D.r 6 / 4 % 2 = 1 ∧ X3.D.r 1 = 0 := ⟨r36, r31⟩
  have e4' : X4 = Rg.reset n ⟨X3.D.rdD 6, X3.B, X3.s, X3.c⟩ := by rw [e4]; unfold Rg.poll; rw [if_pos hd]
  have z36 : Hz n ⟨X3.D.rdD 6, X3.B, X3.s, X3.c⟩ (upd hl i (hl i + 1)) g := by
    obtain ⟨s1, s2, s3, s4, s5, s6⟩ := rd6_same X3.D
    exact z3.dev (z3.ok.rd 6) (rd6_r X3.D 0 (by omega)) (rd6_r X3.D 2 (by omega)) (rd6_r X3.D 3 (by omega)) (rd6_r X3.D 4 (by omega)) (rd6_r X3.D 5 (by omega)) s1 s2 s5
  obtain ⟨z4, hd4⟩ := z36.resets
  rw [← e4'] at z4 hd4
  have s4 : X4.s = sd0 := by rw [e4']; rfl
  have l1 : upd hl i (hl i + 1) i = 1 := by rw [upd_same, hl0]
  have rf : (X4.B i).refs = 1 := by
    have h1 := z4.refs i hi
    rw [l1, s4] at h1
    have nc : (i : Int) ∉ X4.c.ids := fun hm => by have := (z4.one hi hm).2.2; omega
    rw [List.count_eq_zero.2 nc] at h1
    simpa [sd0] using h1
  have b4 := hd4 i hi (by rw [l1]; omega)
  have b3 : X3.B = X2.B := by rw [e3]
  have B4 : X4.B i = ⟨1, [], b⟩ := by
    have q1 : (X4.B i).head = [] := by rw [b4.1]; show (X3.B i).head = []; rw [b3]; exact b2.1
    have q2 : (X4.B i).data = b := by rw [b4.2]; show (X3.B i).data = b; rw [b3]; exact b2.2
    cases hx : X4.B i with
    | mk r hd d => rw [hx] at rf q1 q2; simp only at rf q1 q2; rw [rf, q1, q2]
  have rr : ∀ k, k ≠ 3 → X4.D.r k = (bgD (X3.D.rdD 6)).r k := fun k hk => by rw [e4']; exact flF_r (x := ⟨bgD (X3.D.rdD 6), _, sd0⟩) k hk
  have r := bgD_r (X3.D.rdD 6)
  refine ⟨⟨_, _, z3⟩, by unfold Rg.told; rw [if_pos hd], ⟨_, z4⟩, s4, B4, ?_, (rr 4 (by omega)).trans r.2.2.1, (rr 5 (by omega)).trans r.2.2.2.1, usd_nat hi (by rw [rf]; omega)⟩
  rw [rr 1 (by omega), r.2.2.2.2.2.1, rd6_r X3.D 1 (by omega)]
  exact r31

/-- and when it is up again -/
theorem up_facts {n : Nat} {X4 : Rg} {hl : Nat → Nat} {i : Nat} {b : List Int} (z4 : Hz n X4 hl 0) (hi : i < n) (s4 : X4.s = sd0) (B4 : X4.B i = ⟨1, [], b⟩) (r1 : X4.D.r 1 = 0) (r4 : X4.D.r 4 = 0) (r5 : X4.D.r 5 = 0) (hb1 : 1 ≤ b.length) (hb2 : b.length ≤ 200) :
    sdE n X4.D X4.B X4.s (i : Int) = 20 ∧ ∀ X6 X7 X8 X9, X6 = (⟨X4.D.lkD true, X4.B, X4.s, X4.c⟩ : Rg) → X7 = (⟨sdD n X6.D X6.B X6.s (i : Int), sdB n X6.D X6.B X6.s (i : Int), sdS n X6.D X6.B X6.s (i : Int), X6.c⟩ : Rg) → X8 = (⟨X7.D.tkD, X7.B, X7.s, X7.c⟩ : Rg) → X9 = (⟨X8.D.gvD b true, X8.B, X8.s, X8.c⟩ : Rg) →
      X6.D.Ok ∧ sdE n X6.D X6.B X6.s (i : Int) = 0 ∧ X7.D.Ok ∧ X7.D.tkE = 0 ∧ X7.D.tkF = b ∧ (∃ hl8 g8, Hz n X8 hl8 g8) ∧ (X8.c.ids ≠ [] → X8.D.gvE b = 0 ∧ (∃ hl9 g9, Hz n X9 hl9 g9) ∧ ∃ i' : Nat, X9.told = [((i' : Int), true)] ∧ i' < n ∧ (X9.poll n).B i' = ⟨1, [], b⟩ ∧ usd n (X9.poll n).B (i' : Int) = true) := by
  have hu : usd n X4.B (i : Int) = true := usd_nat hi (by rw [B4]; show 0 < 1; omega)
  refine ⟨by unfold sdE; rw [if_pos hu, if_pos r1], ?_⟩
  rintro X6 X7 X8 X9 e6 e7 e8 e9
  have eD : X4.D.lkD true = { X4.D with r := upd (upd X4.D.r 1 1) 6 (evor (X4.D.r 6) 4) } := by unfold Dev.lkD; rw [if_neg (by rw [r1]; decide)]; rfl
  have z6 : Hz n X6 hl 0 := by rw [e6]; exact z4.links true
  have rk6 : ∀ k, k ≠ 1 → k ≠ 6 → X6.D.r k = X4.D.r k := fun k h1 h2 => by rw [e6]; show (X4.D.lkD true).r k = _; rw [eD]; show upd (upd X4.D.r 1 1) 6 (evor (X4.D.r 6) 4) k = _; rw [upd_other _ _ _ _ h2, upd_other _ _ _ _ h1]
  have r61 : X6.D.r 1 = 1 := by rw [e6]; show (X4.D.lkD true).r 1 = 1; rw [eD]; show upd (upd X4.D.r 1 1) 6 (evor (X4.D.r 6) 4) 1 = 1; rw [upd_other _ _ _ _ (by omega), upd_same]
  have s6 : X6.s = sd0 := by rw [e6]; exact s4
  have B6 : X6.B = X4.B := by rw [e6]
  have c6 : X6.c = X4.c := by rw [e6]
  have hfr : fr X6.B (i : Int) = b := by unfold fr; rw [B6]; simp only [Int.toNat_natCast, B4]; rfl
  have est : X6.D.stE ((X6.s.nx : Nat) : Int) b = 0 := by
    rw [s6]
    unfold Dev.stE
    have hp : place ((sd0.nx : Nat) : Int) = true := by decide
    have ho : X6.D.owns 4 5 ((sd0.nx : Nat) : Int) = false := by
      unfold Dev.owns
      rw [rk6 4 (by omega) (by omega), rk6 5 (by omega) (by omega), r4, r5]
      decide
    rw [hp, ho]
    rw [if_neg (by simp), if_neg (by omega), if_neg (by omega)]
  have hu6 : usd n X6.B (i : Int) = true := by rw [B6]; exact hu
  have se6 : sdE n X6.D X6.B X6.s (i : Int) = 0 := by
    unfold sdE
    rw [if_pos hu6, if_neg (by rw [r61]; omega), if_neg (by rw [s6]; show ¬ (0 : Nat) = 15; omega), hfr]
    exact est
  have z7 : Hz n X7 hl 0 := by
    rw [e7]
    rcases z6.sends (i : Int) with ⟨_, _, z⟩ | ⟨_, z⟩
    · exact z
    · exact z
  have ed7 : X7.D = Dev.post { X6.D with txf := upd X6.D.txf 0 b } 1 := by
    rw [e7]
    show sdD n X6.D X6.B X6.s (i : Int) = _
    unfold sdD
    rw [if_pos se6, hfr]
    have est' := est
    rw [s6] at est' ⊢
    have w5 := wr5 (X6.D.stD ((sd0.nx : Nat) : Int) b) 1 (by omega)
    show (X6.D.stD ((sd0.nx : Nat) : Int) b).wrD 5 (((sd0.put (i : Int)).nx : Nat) : Int) = _
    rw [show (sd0.put (i : Int)).nx = 1 from rfl, w5]
    unfold Dev.stD
    rw [if_pos est']
    rfl
  have r7 : ∀ k, k ≠ 5 → X7.D.r k = X6.D.r k := fun k hk => by rw [ed7]; exact post_r _ _ _ hk
  have r75 : X7.D.r 5 = 1 := by rw [ed7]; show upd X6.D.r 5 1 5 = 1; exact upd_same _ _ _
  have run7 : X7.D.runs = true := by unfold Dev.runs; rw [r7 0 (by omega), r7 1 (by omega), z6.on, r61]; decide
  have r74 : X7.D.r 4 = 0 := by rw [r7 4 (by omega), rk6 4 (by omega) (by omega), r4]
  have tk0 : X7.D.tkE = 0 := by unfold Dev.tkE; rw [if_pos run7, if_neg (by rw [r74, r75]; omega)]
  have tkf : X7.D.tkF = b := by
    unfold Dev.tkF
    rw [if_pos tk0, r74, ed7]
    show upd X6.D.txf 0 b (0 : Int).toNat = b
    exact upd_same _ _ _
  have z8 : Hz n X8 hl 0 := by rw [e8]; exact z7.takes
  refine ⟨z6.ok, se6, z7.ok, tk0, tkf, ⟨_, _, z8⟩, fun hne => ?_⟩
  have r81 : X8.D.r 1 = 1 := by rw [e8]; show X7.D.tkD.r 1 = 1; rw [tk_r1, r7 1 (by omega), r61]
  have run8 : X8.D.runs = true := by unfold Dev.runs; rw [z8.on, r81]; decide
  obtain ⟨a1, a2, a3, a4⟩ := z8.h2
  have c16 := z8.cf
  have c15 := z8.cm
  have lpos : 0 < X8.c.ids.length := by
    rcases Nat.eq_zero_or_pos X8.c.ids.length with e | e
    · exact absurd (List.eq_nil_of_length_eq_zero e) hne
    · exact e
  have h3 := z8.h3
  unfold Sd.nx at h3
  have rm := a4 0 (Nat.le_refl _) lpos
  have ne : ¬ X8.D.r 2 = X8.D.r 3 := by rw [a2, h3]; omega
  have e2 : (X8.D.r 2).toNat = (X8.c.first + 0) % 16 := by rw [a2, Int.toNat_natCast]
  have gv0 : X8.D.gvE b = 0 := by unfold Dev.gvE; rw [if_pos run8, if_neg ne, e2, rm, if_neg (by omega)]
  have z9 : Hz n X9 hl 1 := by
    rw [e9]
    rcases z8.gives b true with ⟨_, z⟩ | ⟨q, _⟩
    · exact z
    · exact absurd gv0 q
  have ed9 : X9.D = X8.D.fill b true := by rw [e9]; show X8.D.gvD b true = _; unfold Dev.gvD; rw [if_neg (by rw [gv0]; omega), if_pos gv0]
  have r91 : X9.D.r 1 = 1 := by rw [e9]; exact (gv_r1 _ _ _).trans r81
  have nd : ¬ (X9.D.r 6 / 4 % 2 = 1 ∧ X9.D.r 1 = 0) := fun e => by have := e.2; omega
  have c9 : X9.c = X8.c := by rw [e9]
  obtain ⟨zp, hp⟩ := z9.polls
  obtain ⟨i', hi', hc', hr', hh', hd'⟩ := hp 0 (by omega)
  have fx : X9.D.rxf ((X9.c.first + 0) % 16) = b := by
    rw [ed9, c9]
    show upd X8.D.rxf (X8.D.r 2).toNat b _ = b
    rw [e2]; exact upd_same _ _ _
  have bx : X9.D.bad ((X9.c.first + 0) % 16) = true := by
    rw [ed9, c9]
    show upd X8.D.bad (X8.D.r 2).toNat true _ = true
    rw [e2]; exact upd_same _ _ _
  have et : X9.told = [((i' : Int), true)] := by
    unfold Rg.told
    rw [if_neg nd]
    unfold Rg.come
    rw [z9.got.1]
    show rcC (X9.D.rdD 6) X9.c 0 ++ [(X9.c.ids[0]?.getD 0, (X9.D.rdD 6).rxB (((X9.c.first + 0) % 16 : Nat) : Int))] = _
    rw [hc', (z9.rx (k := 0) (by omega)).2.2.1, bx]
    rfl
  have ep : X9.poll n = X9.polled n := by unfold Rg.poll; rw [if_neg nd]
  rw [fx] at hd'
  have eB : (X9.poll n).B i' = ⟨1, [], b⟩ := by
    rw [ep]
    cases hx : (X9.polled n).B i' with
    | mk r hd d => rw [hx] at hr' hh' hd'; simp only at hr' hh' hd'; rw [hr', hh', hd']
  exact ⟨gv0, ⟨_, _, z9⟩, i', et, hi', eB, usd_nat hi' (by rw [eB]; show 0 < 1; omega)⟩

theorem sea1d {w5 w13 : World} {D : Value} {dt : List Int} (it : IsF (fun g => g < w5.drew.heap.size) w13 D dt) (rf : Int) (H : Value) : IsF (fun g => g < w5.heap.size) (w13.alloc (.cells #[.int .i64 rf, H, D] 35)) D dt :=
  IsF.but (K := fun _ => False) (A := fun g => g < w5.heap.size) it ((But.refl _ _).alloc _) (fun _ e => e.elim)
theorem sea3d {w5 w13 : World} {D : Value} {dt : List Int} {Z : Array Value} {t : TypeId} (it : IsF (fun g => g < (w5.alloc (.cells Z t)).drew.heap.size) w13 D dt) (rf : Int) (H E : Value) : IsF (fun g => g < w5.heap.size) (((w13.setCell ⟨w5.heap.size, 0, none⟩ (.int .i64 rf)).setCell ⟨w5.heap.size, 1, none⟩ H).setCell ⟨w5.heap.size, 2, none⟩ E) D dt := by
  have hs : (w5.alloc (.cells Z t)).drew.heap.size = w5.heap.size + 1 := by show (w5.alloc (.cells Z t)).heap.size = _; simp
  have b1 : But (Only w5.heap.size) w13 (((w13.setCell ⟨w5.heap.size, 0, none⟩ (.int .i64 rf)).setCell ⟨w5.heap.size, 1, none⟩ H).setCell ⟨w5.heap.size, 2, none⟩ E) := (((But.refl _ _).cellb _ _).cellb _ _).cellb _ _
  exact (it.but b1 (fun g e => by have e : g = w5.heap.size := e; omega)).avoid (fun g _ e => by omega)

set_option maxRecDepth 100000 in
set_option maxHeartbeats 4000000 in
theorem Down_walk (many : Int) (v : Value) (l : List OpV) (vb : Value) (b : List Int) (W : World) (hI : IsO W.heap.size W v l) (hl : l.length ≤ 2932031007318) (hv : IsF (fun g => W.heap.size ≤ g) W vb b) (hbl : b.length ≤ 140737488351232) :
    Calls Try.prog 5 #[.int .i64 many, v, vb] W fun e W' => e = .returned (.bool true) ∧ Below W.heap.size W W' := by
  have HI := hide hI
  obtain ⟨a, cap, rfl, _, _⟩ := hI
  have HV := hide hv
  obtain ⟨va, vc, rfl, _⟩ := hv.shape
  have ZL : Hid (l.length ≤ 2932031007318) := hl
  have zl : (l.length : Int) ≤ 2932031007318 := by omega
  have zbl : (b.length : Int) ≤ 140737488351232 := by omega
  clear hl hv
  by_cases hmany : many < 1 ∨ 60 < many
  · have XB := hide (fun w => begun_no w many hmany)
    go_enter Try.func5, Try.ntmps5
    go_wp2_with fail
    refine (awake_any W).mono ?_
    rintro _ w1 ⟨rfl, hb1⟩
    go_wp2_with fail
    refine (XB.out w1).mono ?_
    rintro _ w2 ⟨rfl, hw⟩
    subst hw
    rcases hmany with h | h
    · go_wp2
      go_ret
      exact ⟨rfl, hb1⟩
    · have h1 : ¬ many < 1 := by omega
      go_wp2
      go_ret
      exact ⟨rfl, hb1⟩
  · obtain ⟨n, rfl⟩ : ∃ n : Nat, many = n := ⟨many.toNat, by omega⟩
    have n0 : 0 < n := by omega
    have n60 : n ≤ 60 := by omega
    have z0 : ¬ (n : Int) < 1 := by omega
    have z1 : (n : Int) ≤ 60 := by omega
    have z2 : ¬ (60 : Int) < (n : Int) := by omega
    clear hmany
    go_enter Try.func5, Try.ntmps5
    go_wp2_with fail
    refine (awake_any W).mono ?_
    rintro _ w1 ⟨rfl, hb1⟩
    have B1 := hide hb1
    clear hb1
    go_wp2_with fail
    refine (begun2_yes w1 n n0 n60).mono ?_
    rintro _ w2 ⟨x, q, k, ρ, tv, cv, rfl, t2, b2, r2⟩
    have S0 : Hid (Fst W.heap.size W x q k n 0 ρ (rg0 n) (rg0 n) tv cv (.slice none 0 0) (.slice none 0 0) [] [] w2) := ⟨t2, B1.out.trans (b2.mono B1.out.size), fun g e => Nat.le_trans B1.out.size (r2 g e), inv0 n, Nat.le_refl _⟩
    have BB := hide S0.out.b
    clear t2 b2 r2 B1
    by_cases h20 : (n : Int) < 20
    · go_wp2
      go_ret
      exact ⟨rfl, BB.out⟩
    · have U0 : Hid ((rg0 n).D.r 1 = 1) := (Hd.new n).up
      go_wp2
      go_loopw [9] (fun v9 wr => ∃ (i : Nat) (ρ : Nat → Nat) (X Y : Rg) (tv cv ov mv : Value) (Cm Mn : List Int), v9 = .int .i64 (i : Int) ∧ i ≤ l.length ∧ Hid (Fst W.heap.size W x q k n i ρ X Y tv cv ov mv Cm Mn wr) ∧ Hid (X.D.r 1 = 1)) (fun v9 _ => l.length - (intOf v9).toNat)
      case atStart => exact ⟨0, ρ, _, _, _, _, _, _, _, _, rfl, Nat.zero_le _, S0.out, U0.out⟩
      case round =>
        clear S0 U0 BB
        obtain ⟨i, ρ, X, Y, tv, cv, ov, mv, Cm, Mn, rfl, hi, hS, hU⟩ := hrel
        by_cases hlt : i < l.length
        · have zi : (i : Int) < (l.length : Int) := by omega
          obtain ⟨o, ho⟩ : ∃ o, l[i]? = some o := ⟨_, List.getElem?_eq_getElem hlt⟩
          obtain ⟨a', cap', e', hc', hf'⟩ := HI.out.below hS.out.b
          simp only [Value.slice.injEq, true_and] at e'
          obtain ⟨rfl, rfl⟩ := e'
          obtain ⟨og, off, rfl, hog, hcs⟩ := hc' (by omega)
          obtain ⟨o0, o1, o2, o3⟩ := hcs i o ho
          obtain ⟨io, iol, ioc⟩ := hf' o (List.mem_of_getElem? ho)
          obtain ⟨kd, kk, bv, bs, ys⟩ := o
          simp only at o0 o1 o2 o3 io iol ioc
          obtain ⟨ba, bc, rfl, _⟩ := io.shape
          by_cases h6 : kd = 6
          · subst h6
            have F3 : Hid (Fst W.heap.size W x q k n (i + 1) ρ X Y tv cv ov mv Cm Mn wr) := ⟨hS.out.t, hS.out.b, hS.out.r, ⟨hS.out.i.x.mono (by omega), hS.out.i.y.mono (by omega), hS.out.i.rc, hS.out.i.rm, hS.out.i.bx.mono (by omega), hS.out.i.by'.mono (by omega), by omega, hS.out.i.hy⟩, by have := hS.out.m; omega⟩
            clear hcs hc' hf' ho io iol ioc hS
            go_wp2
            go_roundw
            case rel => exact ⟨i + 1, ρ, X, Y, tv, cv, ov, mv, Cm, Mn, by go_num, hlt, F3.out, hU.out⟩
            case measure => simp [intOf]; omega
          · have q6 : (kd == 6) = false := by simp [h6]
            have XD := hide (does_any hS.out.t hS.out.i (by have := ZL.out; omega) (by have := hS.out.i.x.len; have := ZL.out; omega) (by have := hS.out.m; have := ZL.out; omega) hS.out.r kd kk ys ba bc bs iol io hS.out.b.size (ioc _ _ _ rfl))
            clear hcs hc' hf' ho io iol ioc
            go_wp2_with fail
            refine XD.out.mono ?_
            rintro _ w3 ⟨b3, ρ3, tv3, cv3, ov3, mv3, X3, Y3, Cm3, Mn3, rfl, t3, m3, i3, l3, r3, _⟩
            have F3 := hide (hS.out.mv (Nat.le_refl _) (i' := i + 1) m3 t3 i3 (by have := hS.out.m; omega))
            have U3 : Hid (X3.D.r 1 = 1) := (r3 h6).trans hU.out
            clear t3 m3 i3 l3 r3 XD o0 o1 o2 o3 hS hU
            go_wp2
            go_roundw
            case rel => exact ⟨i + 1, ρ3, X3, Y3, tv3, cv3, ov3, mv3, Cm3, Mn3, by go_num, hlt, F3.out, U3.out⟩
            case measure => simp [intOf]; omega
        · obtain rfl : i = l.length := by omega
          have zi : ¬ (l.length : Int) < (l.length : Int) := by omega
          obtain ⟨hl, g, hz, _⟩ := hS.out.i.x
          have HZ := hide hz
          have RL := hide hS.out.r
          have LOW : Hid (∀ w', Mv ρ wr ρ w' → Below W.heap.size W w') := fun w' m => hS.out.b.trans (m.low hS.out.b.size hS.out.r).1
          have c1 := hS.out.t.p.c1
          have BD := hide hS.out.i.bx
          have T0 := hide hS.out.t
          have HVr : Hid (IsF (fun g => W.heap.size ≤ g) wr (.slice va b.length vc) b) := HV.out.below hS.out.b
          have UP := hide hU.out
          clear hS hU hz hi
          cases hg : gt n X.B with
          | none =>
            have XG := hide (Get_no T0.out.p.p.pool (gt_none hg))
            have F := hide (LOW.out wr (Mv.refl T0.out.lt))
            clear T0 LOW
            go_wp2_with fail
            refine XG.out.mono ?_
            rintro _ w3 ⟨rfl, hw⟩
            have hw' := hw.symm
            subst hw'
            go_wp2
            go_ret
            exact ⟨rfl, F.out⟩
          | some i =>
            obtain ⟨hi, i0, il⟩ := gt_some hg
            have XG := hide (Get_yes T0.out.p.p.pool i hi i0 il)
            have HG := hide hg
            clear i0 il hg
            go_wp2_with fail
            refine XG.out.mono ?_
            rintro _ w3 ⟨rfl, p3, b3⟩
            obtain ⟨t3, m3⟩ := T0.out.pool b3 p3
            have T3 := hide t3
            have M3 := hide m3
            have c13 := t3.p.c1
            clear t3 m3 p3 b3 XG T0 c1
            by_cases hb : b.length < 1 ∨ 200 < b.length
            · have F := hide (LOW.out w3 M3.out)
              clear LOW T3 M3
              rcases hb with hb | hb
              · have zb : (b.length : Int) < 1 := by omega
                go_wp2
                go_ret
                exact ⟨rfl, F.out⟩
              · have zb : ¬ (b.length : Int) < 1 := by omega
                have zb2 : (200 : Int) < (b.length : Int) := by omega
                go_wp2
                go_ret
                exact ⟨rfl, F.out⟩
            · have zb : ¬ (b.length : Int) < 1 := by omega
              have zb2 : ¬ (200 : Int) < (b.length : Int) := by omega
              have b1 : 1 ≤ b.length := by omega
              have b2 : b.length ≤ 200 := by omega
              have VB : Hid (∀ w', Mv ρ wr ρ w' → IsF (fun g => W.heap.size ≤ g) w' (.slice va b.length vc) b) := fun w' m => HVr.out.but m.but (fun g e => RL.out g e)
              obtain ⟨X1, hX1⟩ : ∃ X1 : Rg, X1 = ⟨X.D, dnB n X.B i b, X.s, X.c⟩ := ⟨_, rfl⟩
              obtain ⟨X2, hX2⟩ : ∃ X2 : Rg, X2 = ⟨sdD n X1.D X1.B X1.s (i : Int), sdB n X1.D X1.B X1.s (i : Int), sdS n X1.D X1.B X1.s (i : Int), X1.c⟩ := ⟨_, rfl⟩
              obtain ⟨X3, hX3⟩ : ∃ X3 : Rg, X3 = ⟨X2.D.lkD false, X2.B, X2.s, X2.c⟩ := ⟨_, rfl⟩
              obtain ⟨X4, hX4⟩ : ∃ X4 : Rg, X4 = X3.poll n := ⟨_, rfl⟩
              obtain ⟨⟨hl3, g3, z3⟩, tl3, ⟨hl4, z4⟩, s4, B4, r41, r44, r45, u4⟩ := down_facts HZ.out UP.out HG.out b2 X1 X2 X3 X4 hX1 hX2 hX3 hX4
              obtain ⟨X6, hX6⟩ : ∃ X6 : Rg, X6 = ⟨X4.D.lkD true, X4.B, X4.s, X4.c⟩ := ⟨_, rfl⟩
              obtain ⟨X7, hX7⟩ : ∃ X7 : Rg, X7 = ⟨sdD n X6.D X6.B X6.s (i : Int), sdB n X6.D X6.B X6.s (i : Int), sdS n X6.D X6.B X6.s (i : Int), X6.c⟩ := ⟨_, rfl⟩
              obtain ⟨X8, hX8⟩ : ∃ X8 : Rg, X8 = ⟨X7.D.tkD, X7.B, X7.s, X7.c⟩ := ⟨_, rfl⟩
              obtain ⟨X9, hX9⟩ : ∃ X9 : Rg, X9 = ⟨X8.D.gvD b true, X8.B, X8.s, X8.c⟩ := ⟨_, rfl⟩
              obtain ⟨e20, uf⟩ := up_facts z4 hi s4 B4 r41 r44 r45 b1 b2
              obtain ⟨ok6, se6, ok7, tk7, tf7, ⟨hl8, g8, z8⟩, gf⟩ := uf X6 X7 X8 X9 hX6 hX7 hX8 hX9
              have mb : l.length + 1 < 4611686018427387000 := by have := ZL.out; omega
              have bd1 : Bdd (l.length + 1) X1.B := by rw [hX1]; exact ((BD.out.get (by omega) i).st _ _)
              have bd2 : Bdd (l.length + 2) X2.B := by rw [hX2]; exact bd1.sd _
              have bd3 : Bdd (l.length + 2) X3.B := by rw [hX3]; exact bd2
              have bd4 : Bdd (l.length + 2) X4.B := by rw [hX4]; exact poll_bdd bd3 (by omega) z3.ok
              have bd6 : Bdd (l.length + 2) X6.B := by rw [hX6]; exact bd4
              have bd7 : Bdd (l.length + 3) X7.B := by rw [hX7]; exact bd6.sd _
              have bd8 : Bdd (l.length + 3) X8.B := by rw [hX8]; exact bd7
              have bd9 : Bdd (l.length + 3) X9.B := by rw [hX9]; exact bd8
              have ok1 : X1.D.Ok := by rw [hX1]; exact HZ.out.ok
              have ok2 : X2.D.Ok := by rw [hX2]; exact Ok.sd ok1 _
              have C2 : Hid (∀ w', Two ρ w' x q k n ⟨X.D, upd X.B i ⟨1, [], []⟩, X.s, X.c⟩ Y tv cv ov mv Cm Mn → Mv ρ wr ρ w' → Calls Try.prog 20 #[.pointer (some ⟨q.p, 0, none⟩), .int .i64 (i : Int), .slice va b.length vc] w' fun e w'' => (∃ u, e = .returned (.int .i64 u)) ∧ Hid (Two ρ w'' x q k n X1 Y tv cv ov mv Cm Mn ∧ Mv ρ wr ρ w'')) := fun w' t m => by
                refine (Set_any t.p.p.pool (i : Int) _ b (VB.out w' m)).mono ?_
                rintro _ w'' ⟨rfl, hp, hbb⟩
                obtain ⟨t1, m1⟩ := t.pool hbb hp
                rw [hX1]
                exact ⟨⟨_, rfl⟩, t1, m.trans m1⟩
              have CSD : Hid (∀ w' Z Z' m0 E, m0 < 4611686018427387904 → Bdd m0 Z.B → Z.D.Ok → Z' = (⟨sdD n Z.D Z.B Z.s (i : Int), sdB n Z.D Z.B Z.s (i : Int), sdS n Z.D Z.B Z.s (i : Int), Z.c⟩ : Rg) → sdE n Z.D Z.B Z.s (i : Int) = E → Two ρ w' x q k n Z Y tv cv ov mv Cm Mn → Mv ρ wr ρ w' → Calls Try.prog 13 #[.pointer (some ⟨q.r, 0, none⟩), .int .i64 (i : Int)] w' fun e w'' => e = .returned (.int .i64 E) ∧ Hid (Two ρ w'' x q k n Z' Y tv cv ov mv Cm Mn ∧ Mv ρ wr ρ w'' ∧ Mv ρ w' ρ w'')) := fun w' Z Z' m0 E hm0 hb0 ok eZ eE t m => by
                refine (Send_any t.p.p ok t.lt (i : Int) hb0 hm0).mono ?_
                rintro _ w'' ⟨rfl, hp, hbb⟩
                rw [eE, eZ]
                have m1 := Mv.of t.lt hbb (fun g e => by have := t.pk g e; omega)
                exact ⟨rfl, t.prog hbb hp, m.trans m1, m1⟩
              have CLK : Hid (∀ w' Z Z' y, Z.D.Ok → Z' = (⟨Z.D.lkD y, Z.B, Z.s, Z.c⟩ : Rg) → Two ρ w' x q k n Z Y tv cv ov mv Cm Mn → Mv ρ wr ρ w' → Calls Try.prog 21 #[.pointer (some ⟨q.d, 0, none⟩), .bool y] w' fun e w'' => e = .returned (.tuple #[]) ∧ Hid (Two ρ w'' x q k n Z' Y tv cv ov mv Cm Mn ∧ Mv ρ wr ρ w'')) := fun w' Z Z' y ok eZ t m => by
                refine (Link_any t.p.p.dev ok y).mono ?_
                rintro _ w'' ⟨rfl, hd, hbb⟩
                rw [eZ]
                exact ⟨rfl, t.prog (hbb.mono (fun g e => .inl e)) (t.p.p.onDev hbb hd), m.trans (Mv.of t.lt hbb (fun g e => by have := t.pk g (.inl e); omega))⟩
              have CPL : Hid (∀ w' Z Z' hl g m0 L, m0 < 4611686018427387904 → Bdd m0 Z.B → Hz n Z hl g → Z' = Z.poll n → Z.told = L → Two ρ w' x q k n Z Y tv cv ov mv Cm Mn → Mv ρ wr ρ w' → Calls Try.prog 22 #[.pointer (some ⟨q.r, 0, none⟩)] w' fun e w'' => ∃ a c, e = .returned (.slice a L.length c) ∧ Hid (Two ρ w'' x q k n Z' Y tv cv ov mv Cm Mn ∧ Mv ρ wr ρ w'' ∧ w''.ownsRow w'.heap.size 67 2 (.slice a L.length c) L.length (flc L))) := fun w' Z Z' hl g m0 L hm0 hb0 zz eZ eL t m => by
                refine (Poll_any t.p.p zz hb0 hm0).mono ?_
                rintro _ w'' ⟨v, rfl, ho, hp, hbb⟩
                rw [eL] at ho
                obtain ⟨a, c, rfl, _⟩ := row_shape ho
                rw [eZ]
                exact ⟨a, c, rfl, t.prog hbb hp, m.trans (Mv.of t.lt hbb (fun g e => by have := t.pk g e; omega)), ho⟩
              have XS2 := hide (C2.out w3 T3.out M3.out)
              have K5 : Hid ((⟨sdD n X4.D X4.B X4.s (i : Int), sdB n X4.D X4.B X4.s (i : Int), sdS n X4.D X4.B X4.s (i : Int), X4.c⟩ : Rg) = X4) := by
                unfold Hid sdD sdB sdS
                rw [if_neg (by rw [e20]; omega), if_neg (by rw [e20]; omega), if_neg (by rw [e20]; omega)]
              have e8 : seX n X4.B (i : Int) = ⟨1, [], b⟩ := by unfold seX; rw [if_pos u4]; simpa using B4
              have h8 : hoE n X4.B (i : Int) = 0 := by unfold hoE; rw [if_pos u4]
              have s40 : X4.s.ids = [] := by rw [s4]; rfl
              have FACT := hide (And.intro e8 (And.intro h8 s40))
              have GF := hide gf
              have ZZ := hide (And.intro z3 (And.intro z8 (And.intro tk7 tf7)))
              have EQ := hide (And.intro hX2 (And.intro hX3 (And.intro hX4 (And.intro hX6 (And.intro hX7 (And.intro hX8 hX9))))))
              have BDS := hide (And.intro bd1 (And.intro bd3 (And.intro bd4 (And.intro bd6 bd9))))
              have OKS := hide (And.intro ok1 (And.intro ok2 (And.intro z4.ok (And.intro ok6 ok7))))
              have SES := hide (And.intro e20 (And.intro se6 tl3))
              clear hX1 hX2 hX3 hX4 hX6 hX7 hX8 hX9 z3 tl3 z4 s4 B4 r41 r44 r45 u4 e20 uf ok6 se6 ok7 tk7 tf7 z8 gf bd1 bd2 bd3 bd4 bd6 bd7 bd8 bd9 ok1 ok2 e8 h8 s40 HZ UP HG BD C2 HVr
              go_wp2_with fail
              refine XS2.out.mono ?_
              rintro _ w4 ⟨⟨u4, rfl⟩, F4⟩
              have c24 := F4.out.1.p.c2
              have X5 := hide (CSD.out w4 X1 X2 (l.length + 1) _ (by omega) BDS.out.1 OKS.out.1 EQ.out.1 rfl F4.out.1 F4.out.2)
              generalize sdE n X1.D X1.B X1.s (i : Int) = E1 at *
              clear XS2 T3 M3 c13
              go_wp2_with fail
              refine X5.out.mono ?_
              rintro _ w5 ⟨rfl, F5⟩
              have c05 := F5.out.1.p.c0
              have X6' := hide (CLK.out w5 X2 X3 false OKS.out.2.1 EQ.out.2.1 F5.out.1 F5.out.2.1)
              clear X5 F4 c24
              go_wp2_with fail
              refine X6'.out.mono ?_
              rintro _ w6 ⟨rfl, F6⟩
              have c26 := F6.out.1.p.c2
              have X7' := hide (CPL.out w6 X3 X4 _ _ (l.length + 2) [] (by omega) BDS.out.2.1 ZZ.out.1 EQ.out.2.2.1 SES.out.2.2 F6.out.1 F6.out.2)
              clear X6' F5 c05
              go_wp2_with fail
              refine X7'.out.mono ?_
              rintro _ w7 ⟨pa, pc, rfl, F7⟩
              have c17 := F7.out.1.p.c1
              have X8' := hide (See_any F7.out.1.p.p.pool (i : Int))
              rw [FACT.out.1, FACT.out.2.1] at X8'
              simp only [List.length_nil] at *
              clear X7' F6 c26
              go_wp2_with fail
              refine X8'.out.mono ?_
              rintro _ w8 ⟨ha, hc, da, dc, rfl, _, b8⟩
              have z8 := b8.alloc b8.size (.cells #[.int .i64 ((1 : Nat) : Int), .slice ha 0 hc, .slice da b.length dc] 35)
              have t9 := F7.out.1.later z8
              have m9 := F7.out.2.1.trans (Mv.below F7.out.1.lt z8)
              have y9 : (w8.alloc (.cells #[.int .i64 1, .slice ha 0 hc, .slice da b.length dc] 35)).cell? ⟨w8.heap.size, 0, none⟩ = some (.int .i64 1) := by rw [cell_of_row _ w8.heap.size 0 _ 35 (0, 0) (heap_alloc_new w8 _)]; rfl
              have ss0 : ρ w8.heap.size = 0 := by
                rcases Nat.eq_zero_or_pos (ρ w8.heap.size) with e | e
                · exact e
                · have h1 := F7.out.1.lt _ (by omega : ρ w8.heap.size ≠ 0); have h2 := b8.size; omega
              have SS : Hid (ρ w8.heap.size = 0 ∧ w8.heap.size < (w8.alloc (.cells #[.int .i64 1, .slice ha 0 hc, .slice da b.length dc] 35)).heap.size) := ⟨ss0, by simp⟩
              have T9 : Hid (Two ρ (w8.alloc (.cells #[.int .i64 1, .slice ha 0 hc, .slice da b.length dc] 35)) x q k n X4 Y tv cv ov mv Cm Mn) := t9
              have M9 : Hid (Mv ρ wr ρ (w8.alloc (.cells #[.int .i64 1, .slice ha 0 hc, .slice da b.length dc] 35))) := m9
              have Y9 := hide y9
              clear t9 m9 y9 ss0 z8 b8 X8' F7 c17
              go_upto_region 18 with fail
              obtain ⟨ss, hss⟩ : ∃ ss, ss = w8.heap.size := ⟨_, rfl⟩
              rw [← hss] at SS Y9 ⊢
              generalize w8.alloc (.cells #[.int .i64 1, .slice ha 0 hc, .slice da b.length dc] 35) = w9 at *
              clear hss
              have c29 := T9.out.p.c2
              have X10 := hide (CSD.out w9 X4 X4 (l.length + 2) 20 (by omega) BDS.out.2.2.1 OKS.out.2.2.1 K5.out.symm SES.out.1 T9.out M9.out)
              go_wp2_with fail
              refine X10.out.mono ?_
              rintro _ w10 ⟨rfl, F10⟩
              have y10 := (F10.out.2.2.but.cell (p := ⟨ss, 0, none⟩) SS.out.2 (by have := SS.out.1; show ¬ ρ ss ≠ 0; omega)).trans Y9.out
              have s10 : ss < w10.heap.size := Nat.lt_of_lt_of_le SS.out.2 F10.out.2.2.but.size
              have c210 := F10.out.1.p.c2
              have XSN := hide (Sending_any F10.out.1.p.p)
              rw [FACT.out.2.2] at XSN
              have Y10 := hide y10
              clear X10 T9 M9 c29 Y9 y10
              go_wp2_with fail
              refine XSN.out.mono ?_
              rintro _ w11 ⟨v11, rfl, o11, b11⟩
              obtain ⟨sa, sc, rfl, _⟩ := row_shape o11
              simp only [List.length_nil] at *
              have T11 := hide (F10.out.1.later b11)
              have M11 := hide (F10.out.2.1.trans (Mv.below F10.out.1.lt b11))
              have y11 := (b11.cell (p := ⟨ss, 0, none⟩) s10).trans Y10.out
              have c211 := T11.out.p.c2
              have XRM := hide (Room_any T11.out.p.p)
              rw [FACT.out.2.2] at XRM
              simp only [List.length_nil] at XRM
              clear XSN o11 b11 F10 c210 Y10 s10 SS
              go_wp2_with fail
              refine XRM.out.mono ?_
              rintro _ w12 ⟨rfl, hw⟩
              have hw' := hw.symm
              subst hw'
              have c011 := T11.out.p.c0
              have X13 := hide (CLK.out w11 X4 X6 true OKS.out.2.2.1 EQ.out.2.2.2.1 T11.out M11.out)
              clear hw XRM
              go_wp2_with fail
              refine X13.out.mono ?_
              rintro _ w13 ⟨rfl, F13⟩
              have c213 := F13.out.1.p.c2
              have X14 := hide (CSD.out w13 X6 X7 (l.length + 2) 0 (by omega) BDS.out.2.2.2.1 OKS.out.2.2.2.1 EQ.out.2.2.2.2.1 SES.out.2.1 F13.out.1 F13.out.2)
              clear X13 T11 M11 c211 c011 y11
              go_wp2_with fail
              refine X14.out.mono ?_
              rintro _ w14 ⟨rfl, F14⟩
              have c014 := F14.out.1.p.c0
              have X15 := hide (Take_any F14.out.1.p.p.dev OKS.out.2.2.2.2)
              rw [ZZ.out.2.2.1, ZZ.out.2.2.2] at X15
              clear X14 F13 c213
              go_wp2_with fail
              refine X15.out.mono ?_
              rintro _ w15 ⟨fa, fc, rfl, g15, d15, b15⟩
              generalize X7.D.tkT = ut at *
              have t15 : Two ρ w15 x q k n X8 Y tv cv ov mv Cm Mn := by rw [EQ.out.2.2.2.2.2.1]; exact F14.out.1.prog (X' := ⟨X7.D.tkD, X7.B, X7.s, X7.c⟩) (b15.mono (fun g e => .inl e)) (F14.out.1.p.p.onDev b15 d15)
              have m15 := F14.out.2.1.trans (Mv.of F14.out.1.lt b15 (fun g e => by have := F14.out.1.pk g (.inl e); omega))
              have z15 : Below w15.heap.size w15 (w15.alloc (.cells #[.slice fa b.length fc, .bool false, .int .i64 ut] 51)) := (Below.refl _ _).alloc (Nat.le_refl _) _
              have T16 := hide (t15.later z15)
              have M16 := hide (m15.trans (Mv.below t15.lt z15))
              have i16 := (g15.isF (A := fun _ => False) (fun _ _ e => e)).later z15
              have y16 : (w15.alloc (.cells #[.slice fa b.length fc, .bool false, .int .i64 ut] 51)).cell? ⟨w15.heap.size, 0, none⟩ = some (.slice fa b.length fc) := by rw [cell_of_row _ w15.heap.size 0 _ 51 (0, 0) (heap_alloc_new w15 _)]; rfl
              have cx := conv_str i16
              have cy := conv_str (VB.out _ M16.out)
              clear t15 m15 z15 i16 g15 d15 b15 X15 F14 c014
              go_upto_region 24 with fail
              obtain ⟨st, hst⟩ : ∃ st, st = w15.heap.size := ⟨_, rfl⟩
              rw [← hst] at y16 ⊢
              generalize w15.alloc (.cells #[.slice fa b.length fc, .bool false, .int .i64 ut] 51) = w16 at *
              clear hst
              have XNW := hide (rNew_any w16)
              go_wp2_with fail
              refine XNW.out.mono ?_
              rintro _ w17 ⟨rfl, _, b17, _⟩
              have T17 := hide (T16.out.later b17)
              have M17 := hide (M16.out.trans (Mv.below T16.out.lt b17))
              have c217 := T17.out.p.c2
              have XCM := hide (Coming_any T17.out.p.p)
              clear XNW b17 T16 M16 y16 cx cy
              go_wp2_with fail
              refine XCM.out.mono ?_
              rintro _ w18 ⟨v18, rfl, o18, b18⟩
              obtain ⟨ka, kc, rfl, _⟩ := row_shape o18
              have T18 := hide (T17.out.later b18)
              have M18 := hide (M17.out.trans (Mv.below T17.out.lt b18))
              have c018 := T18.out.p.c0
              obtain ⟨cl, hcl⟩ : ∃ cl, cl = X8.c.ids.length := ⟨_, rfl⟩
              rw [← hcl]
              have zc15 : (cl : Int) ≤ 15 := by have := ZZ.out.2.1.cm; omega
              by_cases hc0 : cl = 0
              · have F := hide (LOW.out w18 M18.out)
                clear T17 M17 c217 XCM o18 b18 T18 M18 hcl LOW VB
                subst hc0
                go_wp2
                go_ret
                exact ⟨rfl, F.out⟩
              · have zc0 : ((cl : Int) == 0) = false := by rw [beq_eq_false_iff_ne]; omega
                obtain ⟨gv0, ⟨hl9, g9, z9⟩, i', et, hi', eB, u9⟩ := GF.out (fun e => hc0 (by rw [hcl, e]; rfl))
                have XGV : Hid (Calls Try.prog 16 #[.pointer (some ⟨q.d, 0, none⟩), .slice va b.length vc, .bool true] w18 fun e w' => e = .returned (.int .i64 0) ∧ Hid (Two ρ w' x q k n X9 Y tv cv ov mv Cm Mn ∧ Mv ρ wr ρ w')) := by
                  refine (Give_any (A' := fun g => W.heap.size ≤ g) T18.out.p.p.dev ZZ.out.2.1.ok T18.out.lt _ b true (VB.out w18 M18.out) (by omega)).mono ?_
                  rintro _ w' ⟨rfl, hd, hbb⟩
                  rw [gv0, EQ.out.2.2.2.2.2.2]
                  exact ⟨rfl, T18.out.prog (hbb.mono (fun g e => .inl e)) (T18.out.p.p.onDev hbb hd), M18.out.trans (Mv.of T18.out.lt hbb (fun g e => by have := T18.out.pk g (.inl e); omega))⟩
                have Z9 := hide z9
                have ET := hide et
                have e9 : seX n (X9.poll n).B (i' : Int) = ⟨1, [], b⟩ := by unfold seX; rw [if_pos u9]; simpa using eB
                have h9 : hoE n (X9.poll n).B (i' : Int) = 0 := by unfold hoE; rw [if_pos u9]
                have EH9 := hide (And.intro e9 h9)
                clear T17 M17 c217 XCM o18 b18 hcl gv0 z9 et eB u9 e9 h9 hi'
                go_wp2_with fail
                refine XGV.out.mono ?_
                rintro _ w19 ⟨rfl, F19⟩
                have c219 := F19.out.1.p.c2
                have XP := hide (CPL.out w19 X9 (X9.poll n) _ _ (l.length + 3) [((i' : Int), true)] (by omega) BDS.out.2.2.2.2 Z9.out rfl ET.out F19.out.1 F19.out.2)
                clear XGV T18 M18 c018
                go_wp2_with fail
                refine XP.out.mono ?_
                rintro _ w20 ⟨qa, qc, rfl, F20⟩
                obtain ⟨t20, m20, o20⟩ := F20.out
                simp only [List.length_cons, List.length_nil] at o20 ⊢
                obtain ⟨_, _, e0, hsh, _⟩ := row_shape o20
                simp only [Value.slice.injEq, true_and] at e0
                obtain ⟨rg, e1, _⟩ := hsh (by omega)
                rw [← e0.1] at e1
                subst e1
                have cm := CmAt.of (L := [((i' : Int), true)]) rfl o20 0 ((i' : Int), true) (Nat.le_refl _) rfl
                have d0 : w20.cell? ⟨rg, 0, none⟩ = some (.int .i64 (i' : Int)) := cm.1
                have d1 : w20.cell? ⟨rg, 1, none⟩ = some (.bool true) := cm.2
                have lrg : rg < w20.heap.size := (World.ownsRow.lt o20 rg rfl).2
                have T20 := hide t20
                have M20 := hide m20
                have D0 := hide d0
                clear t20 m20 o20 e0 hsh cm XP F19 c219 F20
                go_upto_region 32 with fail
                clear d1
                have XE : Hid (∀ w', Below w20.heap.size w20 w' → Calls Try.prog 12 #[.pointer (some ⟨q.p, 0, none⟩), .int .i64 (i' : Int)] w' fun e w6 => ∃ ha hc da dc, e = .returned (.tuple #[.agg #[.int .i64 1, .slice ha 0 hc, .slice da b.length dc], .int .i64 0]) ∧ IsF (fun g => g < w'.heap.size) w6 (.slice da b.length dc) b ∧ Below w'.heap.size w' w6) := fun w' hb' => by
                  refine (See_any (T20.out.later hb').p.p.pool (i' : Int)).mono ?_
                  rintro e w6 ⟨ha, hc, da, dc, rfl, hsn, hbw⟩
                  have sd := hsn.d.isF (A := fun g => g < w'.heap.size) (fun g hg e => by omega)
                  rw [EH9.out.1] at sd
                  rw [EH9.out.1, EH9.out.2]
                  exact ⟨_, _, _, _, rfl, sd, hbw⟩
                have kx := T20.out.p.c1
                have b0 : But (fun _ => False) w20 (w20.alloc (.cells #[.int .i64 0, .slice none 0 0, .slice none 0 0] 35)) := (But.refl _ _).alloc _
                have B0 : Hid (Below w20.heap.size w20 (w20.alloc (.cells #[.int .i64 0, .slice none 0 0, .slice none 0 0] 35))) := b0.below (Nat.le_refl _) (fun _ _ => id)
                have T0 := hide (PTri.new w20 35)
                have u1 : x < w20.heap.size := T20.out.p.xlt
                have u3 : ¬ x = w20.heap.size := by omega
                have u4' : ¬ w20.heap.size = x := by omega
                have u5 : ¬ rg = w20.heap.size := by omega
                have u6 : ¬ w20.heap.size = rg := by omega
                have LRG := hide lrg
                have KP1 : Hid (∀ w', Below w20.heap.size w20 w' → w'.cell? ⟨x, 1, none⟩ = some (.pointer (some ⟨q.p, 0, none⟩)) ∧ w'.cell? ⟨rg, 0, none⟩ = some (.int .i64 (i' : Int))) := fun w' hb' => ⟨(T20.out.later hb').p.c1, (hb'.cell (p := ⟨rg, 0, none⟩) LRG.out).trans D0.out⟩
                have KS : Hid (∀ w', Below w20.heap.size w20 w' → Below w20.heap.size w20 (w'.alloc (.cells #[.int .i64 0, .slice none 0 0, .slice none 0 0] 35))) := fun w' hb' => hb'.alloc hb'.size _
                have KS1 : Hid (∀ w', Below w20.heap.size w20 w' → ∀ u, Below w20.heap.size w20 (w'.setCell ⟨w20.heap.size, 0, none⟩ u)) := fun w' hb' u => hb'.setCell (p := ⟨w20.heap.size, 0, none⟩) (Nat.le_refl _) _
                have KS2 : Hid (∀ w', Below w20.heap.size w20 w' → ∀ u v, Below w20.heap.size w20 ((w'.setCell ⟨w20.heap.size, 0, none⟩ u).setCell ⟨w20.heap.size, 1, none⟩ v)) := fun w' hb' u v => (hb'.setCell (p := ⟨w20.heap.size, 0, none⟩) (Nat.le_refl _) _).setCell (p := ⟨w20.heap.size, 1, none⟩) (Nat.le_refl _) _
                have KS3 : Hid (∀ w', Below w20.heap.size w20 w' → ∀ u v y, Below w20.heap.size w20 (((w'.setCell ⟨w20.heap.size, 0, none⟩ u).setCell ⟨w20.heap.size, 1, none⟩ v).setCell ⟨w20.heap.size, 2, none⟩ y)) := fun w' hb' u v y => ((hb'.setCell (p := ⟨w20.heap.size, 0, none⟩) (Nat.le_refl _) _).setCell (p := ⟨w20.heap.size, 1, none⟩) (Nat.le_refl _) _).setCell (p := ⟨w20.heap.size, 2, none⟩) (Nat.le_refl _) _
                have q0' : Below w20.heap.size w20 w20.drew := undrew0 (Below.refl _ _)
                clear b0 EH9 D0 lrg
                go_cut [21, 22] (fun v21 v22 wc => v22 = .int .i64 0 ∧ ∃ sb da dc, v21 = .pointer (some ⟨sb, 0, none⟩) ∧ Hid (Below w20.heap.size w20 wc ∧ wc.cell? ⟨sb, 0, none⟩ = some (.int .i64 1) ∧ wc.cell? ⟨sb, 2, none⟩ = some (.slice da b.length dc) ∧ IsF (fun g => g < w20.heap.size) wc (.slice da b.length dc) b))
                case first =>
                  go_region_held3 (fun w' => w'.cell? ⟨x, 1, none⟩ = some (.pointer (some ⟨q.p, 0, none⟩)) ∧ w'.cell? ⟨rg, 0, none⟩ = some (.int .i64 (i' : Int))) (first | exact KP1.out _ (by assumption) | exact KP1.out _ B0.out | exact KP1.out _ (undrew0 B0.out) | exact KP1.out _ F13.out.1.1 | exact KP1.out _ (KS.out _ (by assumption)) | exact KP1.out _ (KS1.out _ (by assumption) _) | exact KP1.out _ (KS2.out _ (by assumption) _ _) | exact KP1.out _ (KS3.out _ (by assumption) _ _ _)) (first
                    | (go_at_call 12; refine (XE.out w20.drew (undrew0 (Below.refl _ _))).mono ?_; rintro _ w13 ⟨ha, hc, da, dc, rfl, it, b13⟩; have F13 := hide (And.intro (sea1 (w5 := w20) (undrew b13) 1 (.slice ha 0 hc) (.slice da b.length dc)) (sea1d (w5 := w20) it 1 (.slice ha 0 hc))); have q13 : Below w20.heap.size w20 w13 := undrew b13; clear b13 it)
                    | (go_at_call 12; refine (XE.out (w20.alloc (.cells #[.int .i64 0, .slice none 0 0, .slice none 0 0] 35)).drew (undrew0 B0.out)).mono ?_; rintro _ w13 ⟨ha, hc, da, dc, rfl, it, b13⟩; have t13 := T0.out.but (But.of_below (K := fun _ => False) (undrew b13)) id; have e0 := t13.c0; have e1 := t13.c1; have e2 := t13.c2; have f0 := t13.f 0; have f1 := t13.f 1; have f2 := t13.f 2; have F13 := hide (And.intro (sea3 (w5 := w20) (undrew b13) B0.out t13 1 (.slice ha 0 hc) (.slice da b.length dc)) (sea3d (w5 := w20) it 1 (.slice ha 0 hc) (.slice da b.length dc))); have q13 : Below w20.heap.size w20 w13 := B0.out.trans ((undrew b13).mono B0.out.size); clear b13 t13 it))
                  all_goals go_wp2
                  all_goals go_meet
                  all_goals exact ⟨rfl, _, _, _, rfl, F13.out.1.1, F13.out.1.2.1, F13.out.1.2.2, F13.out.2⟩
                case rest =>
                  obtain ⟨rfl, sb, da, dc, rfl, hcut2⟩ := hcut
                  obtain ⟨b6, c60, c62, i62⟩ := hcut2.out
                  have mF := M20.out.trans (Mv.below T20.out.lt b6)
                  have cx := conv_str i62
                  have cy := conv_str (VB.out wc mF)
                  have F := hide (LOW.out wc mF)
                  clear hcut2 b6 i62 mF XE B0 T0 u1 u3 u4' u5 u6 kx KP1 KS KS1 KS2 KS3 q0' d0
                  go_wp2
                  go_ret
                  exact ⟨rfl, F.out⟩
end Go.Proofs.Ytjkfjijnjkpbbaa
