
/-
  The law's own: both caches are alike.
-/
import Derived.Test.YtdcpnjlldocdcaaC15
import Derived.Test.YtdcpnjlldocdcaaA34
import Derived.Test.YtdcpnjlldocdcaaA31
namespace Go.Proofs.Ytdcpnjlldocdcaa
open Go.RowKit Go.Shelf

/-- between two rounds: the copies whose turn is still to come -/
def AkI (w w1 : World) (L : List Nb) (V : Nat → Value) (τ : Nat → Nat) (v : Value) (q : Nat) (wr : World) : Prop :=
  Below w.heap.size w wr ∧ w1.heap.size ≤ wr.heap.size ∧ RowF 15 (fun g => w.heap.size ≤ g ∧ g < w1.heap.size ∧ τ g = 1) wr v L.length (nbl L V) ∧ ∀ j x, q ≤ j → L[j]? = some x → RowN (fun g => w.heap.size ≤ g ∧ g < w1.heap.size ∧ τ g = j + 2) wr (V j) x.pd
/-- one neighbour's box -/
theorem box_new (wr : World) (cs : List Value) (hl : cs.length = 15) : CellsAt ((wr.alloc (.cells zN.toArray 66)).setCells wr.heap.size 0 cs) wr.heap.size 0 cs ∧ Below wr.heap.size wr ((wr.alloc (.cells zN.toArray 66)).setCells wr.heap.size 0 cs) ∧ ((wr.alloc (.cells zN.toArray 66)).setCells wr.heap.size 0 cs).heap.size = wr.heap.size + 1 := by
  have b1 : Below wr.heap.size wr (wr.alloc (.cells zN.toArray 66)) := (Below.refl _ _).alloc (Nat.le_refl _) _
  refine ⟨(CellsAt.new wr zN 66).stored (by rw [hl]; rfl), b1.trans ((But.cells wr.heap.size cs 0 _).below b1.size (fun g hg e => by have e : g = wr.heap.size := e; omega)), ?_⟩
  rw [size_setCells, World.size_alloc]
set_option maxRecDepth 100000 in
set_option maxHeartbeats 4000000 in
theorem alike_any {ρ : Nat → Role} {w : World} {c r : Nat} {m m' : M6} {i i' : I4} {L : List Nb} (h1 : Ca ρ 1 w c m i L) (h2 : Ca ρ 2 w r m' i' L) {now : Int} (hok : LOk now L) :
    Calls Try.prog 16 #[.pointer (some ⟨c, 0, none⟩), .pointer (some ⟨r, 0, none⟩)] w fun e w' => e = .returned (.bool true) ∧ Below w.heap.size w w' := by
  have AL := hide (All_any h1 hok)
  have H1 := hide h1
  have H2 := hide h2
  have HOK := hide hok
  have n8 : L.length ≤ 8 := hok.len
  obtain ⟨lv, Lt, eL, k2⟩ := h2
  obtain ⟨V0, hR0, hP0⟩ := k2.row.parts
  obtain ⟨a0, c0, e0, -⟩ := k2.row
  have el : Lt.length = L.length := by rw [← eL, List.length_map]
  rw [e0] at hR0
  rw [el] at hR0 e0
  obtain ⟨n, hn⟩ : ∃ n, n = L.length := ⟨_, rfl⟩
  rw [← hn] at hR0 e0 n8
  have XL : Hid (∀ W', Below w.heap.size w W' → W'.cell? ⟨r, 10, none⟩ = some (.slice a0 n c0)) := fun W' hb => by rw [← e0]; exact (hb.cell (p := ⟨r, 10, none⟩) k2.lt).trans k2.lst
  have YX : Hid (∀ q x, L[q]? = some x → ∃ g vb vc, a0 = some ⟨g, 0, none⟩ ∧ ∀ W', Below w.heap.size w W' → CellsAt W' g (q * 15) (x.cells (.slice vb x.pd.length vc)) ∧ RowN (fun j => j < w.heap.size) W' (.slice vb x.pd.length vc) x.pd) := fun q x hx => by
    have hq := (List.getElem?_eq_some_iff.1 hx).1
    obtain ⟨g, eg, hg0, _, _, hc0⟩ := hR0.at (by omega)
    rw [← eL] at hx
    obtain ⟨t, hqt⟩ := get_snd hx
    obtain ⟨hrow, _⟩ := hP0 q t x hqt
    obtain ⟨vb, vc, hV⟩ := hrow.shape
    have cx := hc0 q (by omega)
    rw [nbc_at hqt, hV] at cx
    rw [hV] at hrow
    exact ⟨g, vb, vc, eg, fun W' hb => ⟨cx.later hg0 hb, (hrow.own (fun j hj _ => hj)).later hb⟩⟩
  have HN := hide hn
  have zn : (n : Int) ≤ 8 := by omega
  clear h1 hok eL k2 hR0 hP0 e0 el n8
  go_enter Try.func16, Try.ntmps16
  go_wp2_with fail
  refine AL.out.mono ?_
  rintro _ w1 ⟨av, V, τ, rfl, hR1, hP1, b1⟩
  have xl := XL.out w1 b1
  obtain ⟨aa, ac, rfl⟩ := hR1.shape
  have I0 : Hid (AkI w w1 L V τ (.slice aa n ac) 0 w1) := by
    refine ⟨b1, Nat.le_refl _, ?_, fun j x _ hx => (hP1 j x hx).own (fun g hg e => ⟨e.1, hg, e.2⟩)⟩
    rw [hn]
    exact hR1.own (fun g hg e => ⟨e.1, hg, e.2⟩)
  rw [← hn]
  clear hR1 hP1 b1 AL hn
  go_wp2
  clear xl
  go_loopw [6] (fun v6 wr => ∃ q : Nat, v6 = .int .i64 (q : Int) ∧ q ≤ n ∧ Hid (AkI w w1 L V τ (.slice aa n ac) q wr)) (fun v6 _ => n - (intOf v6).toNat)
  case atStart => exact ⟨0, rfl, by omega, I0.out⟩
  case round =>
    obtain ⟨q, rfl, hq, HI⟩ := hrel
    by_cases hlt : q < n
    · obtain ⟨Bw, sw, hR, hP⟩ := HI.out
      have hN := HN.out
      obtain ⟨x, hx⟩ : ∃ x, L[q]? = some x := ⟨_, List.getElem?_eq_getElem (by omega)⟩
      obtain ⟨g, vb, vd, ea0, hY⟩ := YX.out q x hx
      subst ea0
      obtain ⟨g1, eg1, hg1, og1, _, hc1⟩ := hR.at (by omega)
      subst eg1
      have cx := hc1 q (by omega)
      rw [nbl_at hx] at cx
      have rx := hP q x (Nat.le_refl _) hx
      obtain ⟨va, vc, hV⟩ := rx.shape
      rw [hV] at cx rx
      obtain ⟨pn, hpn⟩ : ∃ pn, pn = x.pd.length := ⟨_, rfl⟩
      have p2 : x.pd.length ≤ 1000 := by have := (HOK.out.all x (List.mem_of_getElem? hx)).pd2; omega
      obtain ⟨X, hX⟩ : ∃ X, X = x.cells (.slice va pn vc) := ⟨_, rfl⟩
      obtain ⟨Y, hYY⟩ : ∃ Y, Y = x.cells (.slice vb pn vd) := ⟨_, rfl⟩
      obtain ⟨s1, hs1⟩ : ∃ s1, s1 = wr.heap.size := ⟨_, rfl⟩
      obtain ⟨wA, hwA⟩ : ∃ wA, wA = wr.alloc (.cells zN.toArray 66) := ⟨_, rfl⟩
      obtain ⟨w2, hw2⟩ : ∃ w2, w2 = wA.setCells s1 0 X := ⟨_, rfl⟩
      obtain ⟨c2, b2, z2⟩ := box_new wr X (by rw [hX]; rfl)
      rw [← hwA, ← hs1, ← hw2] at c2 b2 z2
      have CX : Hid (CellsAt wr g1 (q * 15) X) := by unfold Hid; rw [hX, hpn]; exact cx
      have CA : Hid (CellsAt wA s1 0 zN) := by rw [hwA, hs1]; exact CellsAt.new wr _ _
      have FA : Hid (∀ y, wA.frozen? ⟨s1, y, none⟩ = false) := fun y => by rw [hwA, hs1]; exact frozen_new wr _ _ _
      have B2 : Below w.heap.size w w2 := Bw.trans (b2.mono (by have := Bw.size; omega))
      obtain ⟨s2, hs2⟩ : ∃ s2, s2 = w2.heap.size := ⟨_, rfl⟩
      obtain ⟨wB, hwB⟩ : ∃ wB, wB = w2.alloc (.cells zN.toArray 66) := ⟨_, rfl⟩
      obtain ⟨w3, hw3⟩ : ∃ w3, w3 = wB.setCells s2 0 Y := ⟨_, rfl⟩
      obtain ⟨c3, b3, z3⟩ := box_new w2 Y (by rw [hYY]; rfl)
      rw [← hwB, ← hs2, ← hw3] at c3 b3 z3
      have CY : Hid (CellsAt w2 g (q * 15) Y) := by unfold Hid; rw [hYY, hpn]; exact (hY w2 B2).1
      have CB : Hid (CellsAt wB s2 0 zN) := by rw [hwB, hs2]; exact CellsAt.new w2 _ _
      have FB : Hid (∀ y, wB.frozen? ⟨s2, y, none⟩ = false) := fun y => by rw [hwB, hs2]; exact frozen_new w2 _ _ _
      have B3 : Below w.heap.size w w3 := B2.trans (b3.mono (by have := B2.size; omega))
      have b13 : Below wr.heap.size wr w3 := by rw [← hs1]; exact b2.trans (b3.mono (by omega))
      have rx3 := rx.later b13
      have cX3 : CellsAt w3 s1 0 X := c2.later (by omega) (by rw [← hs2]; exact b3)
      have NU := hide (nums_any rx3 (hY w3 B3).2 (fun j e e2 => by omega) p2)
      rw [← hpn] at NU
      have sW := Bw.size
      have GO : Hid (∀ w4, But (fun j => w.heap.size ≤ j ∧ j < w1.heap.size ∧ τ j = q + 2) w3 w4 → AkI w w1 L V τ (.slice (some ⟨g1, 0, none⟩) n ac) (q + 1) w4 ∧ CellsAt w4 s1 0 X ∧ CellsAt w4 s2 0 Y) := fun w4 b4 => by
        refine ⟨⟨B3.trans (b4.below B3.size (fun j hj e => by omega)), by have := b4.size; omega, (hR.later b13).but b4 (fun j e e2 => by omega), fun j y hj hy => ((hP j y (by omega) hy).later b13).but b4 (fun j e e2 => by omega)⟩, cX3.but (by omega) b4 (fun e => by omega), c3.but (by omega) b4 (fun e => by omega)⟩
      have xl := XL.out w2 B2
      have zq : (q : Int) < (n : Int) := by omega
      have x14 := cX3 14 (.slice va pn vc) (by rw [hX]; rfl)
      have y14 := c3 14 (.slice vb pn vd) (by rw [hYY]; rfl)
      simp only [Nat.zero_add] at x14 y14
      have HX := hide hX
      have HY := hide hYY
      have lX : X.length = 15 := by rw [hX]; rfl
      have lY : Y.length = 15 := by rw [hYY]; rfl
      have oX : Hid (∀ u ∈ X, u.oneCell' = true) := by unfold Hid; rw [hX]; exact nb_one _ _ rfl
      have oY : Hid (∀ u ∈ Y, u.oneCell' = true) := by unfold Hid; rw [hYY]; exact nb_one _ _ rfl
      have hwA' := hwA.symm
      have hwB' := hwB.symm
      simp only [zN] at hwA' hwB'
      have hw2' := hw2.symm
      have hw3' := hw3.symm
      have hs1' := hs1.symm
      have hs2' := hs2.symm
      have LX := hide lX
      have LY := hide lY
      clear Bw sw hR hP hN hx hY hg1 og1 hc1 cx rx hV hpn p2 hX hYY hs1 hwA hw2 c2 b2 z2 B2 hs2 hwB hw3 c3 b3 z3 B3 b13 rx3 cX3 sW lX lY
      go_upto_region 8 with (first | refine wpList_loadA rfl 66 15 aggN sizN _ rfl g1 (q * 15) rfl X LX.out CX.out ?_ | (refine wpList_storeA rfl 66 15 sizN _ _ rfl s1 0 rfl X zN rfl LX.out rfl CA.out FA.out oX.out ?_; intro _))
      try simp only [Act.put]
      try rw [hw2']
      clear hwA' hw2' hs1'
      go_upto_region 9 with (first | refine wpList_loadA rfl 66 15 aggN sizN _ rfl g (q * 15) rfl Y LY.out CY.out ?_ | (refine wpList_storeA rfl 66 15 sizN _ _ rfl s2 0 rfl Y zN rfl LY.out rfl CB.out FB.out oY.out ?_; intro _))
      try simp only [Act.put]
      try rw [hw3']
      clear hwB' hw3' hs2' xl
      go_wp2_with fail
      refine NU.out.mono ?_
      rintro _ w4 ⟨rfl, b4⟩
      obtain ⟨I4', CX4, CY4⟩ := GO.out w4 b4
      have I4'' := hide I4'
      clear b4 GO NU x14 y14 I4'
      rw [HX.out] at CX4
      rw [HY.out] at CY4
      have d0 := CX4 0 _ rfl
      have d1 := CX4 1 _ rfl
      have d2 := CX4 2 _ rfl
      have d3 := CX4 3 _ rfl
      have d4 := CX4 4 _ rfl
      have d5 := CX4 5 _ rfl
      have d6 := CX4 6 _ rfl
      have d7 := CX4 7 _ rfl
      have d8 := CX4 8 _ rfl
      have d9 := CX4 9 _ rfl
      have d10 := CX4 10 _ rfl
      have d11 := CX4 11 _ rfl
      have d12 := CX4 12 _ rfl
      have d13 := CX4 13 _ rfl
      have e0 := CY4 0 _ rfl
      have e1 := CY4 1 _ rfl
      have e2 := CY4 2 _ rfl
      have e3 := CY4 3 _ rfl
      have e4 := CY4 4 _ rfl
      have e5 := CY4 5 _ rfl
      have e6 := CY4 6 _ rfl
      have e7 := CY4 7 _ rfl
      have e8 := CY4 8 _ rfl
      have e9 := CY4 9 _ rfl
      have e10 := CY4 10 _ rfl
      have e11 := CY4 11 _ rfl
      have e12 := CY4 12 _ rfl
      have e13 := CY4 13 _ rfl
      simp only [Nat.zero_add] at d0 d1 d2 d3 d4 d5 d6 d7 d8 d9 d10 d11 d12 d13 e0 e1 e2 e3 e4 e5 e6 e7 e8 e9 e10 e11 e12 e13
      have EM := eq_mac
      have EI := eq_ip
      have m1 : eqM ⟨x.mac.a, x.mac.b, x.mac.c, x.mac.d, x.mac.e, x.mac.f⟩ ⟨x.mac.a, x.mac.b, x.mac.c, x.mac.d, x.mac.e, x.mac.f⟩ = true := eqM_self _
      have m2 : eqI ⟨x.ip.a, x.ip.b, x.ip.c, x.ip.d⟩ ⟨x.ip.a, x.ip.b, x.ip.c, x.ip.d⟩ = true := eqI_self _
      clear CX4 CY4
      go_wp2
      go_roundw
      case rel => exact ⟨q + 1, val_int (by omega), by omega, I4''.out⟩
      case measure => simp [intOf]; omega
    · have eq : q = n := by omega
      subst eq
      have Bw := HI.out.1
      have P1 := hide (Pending_any (H1.out.later Bw) HOK.out)
      have HB := hide Bw
      clear Bw I0 XL YX
      go_wp2_with fail
      refine P1.out.mono ?_
      rintro _ w2 ⟨v2, rfl, r2, b2⟩
      have B2 : Below w.heap.size w w2 := HB.out.trans (b2.mono HB.out.size)
      have P2 := hide (rPending_any (H2.out.later B2) HOK.out)
      obtain ⟨a2, c2, rfl⟩ := r2.shape
      have R2 := hide r2
      have HB2 := hide B2
      have s2 := hide b2.size
      clear r2 B2 b2 P1
      go_wp2_with fail
      refine P2.out.mono ?_
      rintro _ w3 ⟨v3, rfl, r3, b3⟩
      obtain ⟨a3, c3, rfl⟩ := r3.shape
      have pl : (pnd L).length ≤ 1000 := by
        have := pnd_lenR (L := L) (fun x hx => (HOK.out.all x hx).pd2)
        have := HOK.out.len
        omega
      have NU := hide (nums_any (O1 := fun g => wr.heap.size ≤ g ∧ g < w2.heap.size) (O2 := fun g => w2.heap.size ≤ g) ((R2.out.own (fun g hg e => ⟨e, hg⟩)).later b3) r3 (fun g e e2 => by omega) pl)
      have FIN : Hid (∀ w4, But (fun g => wr.heap.size ≤ g ∧ g < w2.heap.size) w3 w4 → Below w.heap.size w w4) := fun w4 hb => (HB2.out.trans (b3.mono HB2.out.size)).trans (hb.below (by have := HB2.out.size; have := b3.size; omega) (fun g hg e => by have := HB.out.size; omega))
      clear r3 b3 P2 pl
      go_wp2_with fail
      refine NU.out.mono ?_
      rintro _ w4 ⟨rfl, b4⟩
      have FE := hide (FIN.out w4 b4)
      clear b4
      go_wp2
      go_ret
      exact ⟨rfl, FE.out⟩
end Go.Proofs.Ytdcpnjlldocdcaa
