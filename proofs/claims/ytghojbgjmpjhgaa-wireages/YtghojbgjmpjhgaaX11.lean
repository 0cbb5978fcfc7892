
/-
  WireAges: its walk.
-/
import Derived.Test.YtghojbgjmpjhgaaX7
import Derived.Test.YtghojbgjmpjhgaaX10
namespace Go.Proofs.Ytghojbgjmpjhgaa
open Go.RowKit

theorem runs_of {D : Dev} (h : D.r 0 = 1 ∧ D.r 1 = 1) : D.runs = true := by unfold Dev.runs; simp [h]
theorem lg_empty (c : Int) : ∀ (n : Nat) (D : Dev), D.Ok → (D.r 0 = 1 ∧ D.r 1 = 1) → (∀ j, j < 16 → old c (D.posted j) = true) → spnD D < n → (lg n c D).r 4 = (lg n c D).r 5 := by
  intro n
  induction n with
  | zero => intro D _ _ _ h; omega
  | succ n ih =>
    intro D ok hr hp hs
    by_cases e : D.r 4 = D.r 5
    · have h0 : ¬ (D.olB = true ∧ old c D.olT = true ∧ D.tkE = 0) := fun h => by have := h.1; unfold Dev.olB at this; simp [e] at this
      rw [lg_stay h0]; exact e
    · have ht : D.tkE = 0 := by unfold Dev.tkE; rw [if_pos (runs_of hr), if_neg e]
      have hb : D.olB = true := by unfold Dev.olB; simp [e]
      have ho : old c D.olT = true := by unfold Dev.olT; rw [if_neg e]; exact hp _ (by have := ok.ring 4 (by omega) (by omega); omega)
      rw [lg_go ⟨hb, ho, ht⟩]
      have h1 := r01_tk D
      have h2 := spn_tk ok ht
      refine ih D.tkD ok.tk ⟨h1.1.trans hr.1, h1.2.trans hr.2⟩ (fun j hj => ?_) (by omega)
      rw [tk_posted.1]; exact hp j hj
theorem posted_lg (c : Int) (n : Nat) : ∀ D : Dev, (lg n c D).posted = D.posted := by
  induction n with
  | zero => intro D; rfl
  | succ n ih =>
    intro D
    unfold lg
    split
    · rw [ih, tk_posted.1]
    · rfl
theorem tiD_at (D : Nat → Dev) (c : Int) (j : Nat) (hj : j < 2) : tiD D c j = lg 16 c (D j).tick := by
  have : j = 0 ∨ j = 1 := by omega
  unfold tiD
  rcases this with rfl | rfl
  · rw [upd_other _ _ _ _ (by omega), upd_same]
  · rw [upd_same]
theorem tiA_at (l : Nat → List Frm) (c : Int) (j : Nat) (hj : j < 2) : tiA l c j = (l j).filter (fun f => !old c f.tick) := by
  have : j = 0 ∨ j = 1 := by omega
  unfold tiA
  rcases this with rfl | rfl
  · rw [upd_other _ _ _ _ (by omega), upd_same]
  · rw [upd_same]

/-- behind t ticks: nothing is younger than it was -/
structure Aged (ck0 : Int) (t : Nat) (l : Nat → List Frm) (D : Nat → Dev) : Prop where
  on : ∀ j, j < 2 → (D j).r 0 = 1 ∧ (D j).r 1 = 1
  ps : ∀ j, j < 2 → ∀ k, k < 16 → (D j).posted k ≤ ck0
  tk : ∀ j, j < 2 → ∀ f ∈ l j, f.tick ≤ ck0
  dn : t = 8 → ∀ j, j < 2 → l j = [] ∧ (D j).r 4 = (D j).r 5
theorem Aged.tick {ck0 : Int} {t : Nat} {l : Nat → List Frm} {D : Nat → Dev} (h : Aged ck0 t l D) (ok : ∀ j, j < 2 → (D j).Ok) (c : Int) (hc : c = ck0 + t + 1) : Aged ck0 (t + 1) (tiA l c) (tiD D c) := by
  refine ⟨fun j hj => ?_, fun j hj k hk => ?_, fun j hj f hf => ?_, fun e j hj => ⟨?_, ?_⟩⟩
  · have h1 := same01_ti D c j hj
    exact ⟨h1.1.trans (h.on j hj).1, h1.2.trans (h.on j hj).2⟩
  · rw [tiD_at D c j hj, posted_lg]; exact h.ps j hj k hk
  · rw [tiA_at l c j hj] at hf; exact h.tk j hj f (List.mem_filter.1 hf).1
  · rw [tiA_at l c j hj]
    refine List.eq_nil_iff_forall_not_mem.2 (fun f hf => ?_)
    have h1 := List.mem_filter.1 hf
    have h2 := h.tk j hj f h1.1
    have h3 : old c f.tick = true := by unfold old; simp only [decide_eq_true_eq]; omega
    rw [h3] at h1; simp at h1
  · rw [tiD_at D c j hj]
    refine lg_empty c 16 _ (ok j hj).tick (h.on j hj) (fun k hk => ?_) (by unfold spnD; omega)
    have h2 := h.ps j hj k hk
    show old c ((D j).posted k) = true
    unfold old; simp only [decide_eq_true_eq]; omega

set_option maxRecDepth 100000 in
set_option maxHeartbeats 8000000 in
theorem Ages_walk (v : Value) (l : List OpV) (W : World) (hI : IsO W.heap.size W v l) (hl : l.length ≤ 2513169434843) :
    Calls Try.prog 5 #[v] W fun e W' => e = .returned (.bool true) ∧ Below W.heap.size W W' := by
  have HI := hide hI
  obtain ⟨a, cap, rfl, _, _⟩ := hI
  go_enter Try.func5, Try.ntmps5
  go_wp2_with fail
  refine (awake_any W).mono ?_
  rintro e w1 ⟨rfl, hb1⟩
  go_wp2_with fail
  refine (begun_any w1).mono ?_
  rintro e w2 ⟨rfl, ⟨b, rb, dv, rdv, h2⟩, hb2⟩
  obtain ⟨P, hP⟩ : ∃ P : Pl, P = ⟨w1.heap.size, b, rb, dv, rdv, w1.heap.size⟩ := ⟨_, rfl⟩
  have hPx : w1.heap.size = P.x := by rw [hP]
  have HPN : Hid (W.heap.size ≤ P.n₀) := by rw [hP]; exact hb1.size
  rw [← hP] at h2
  rw [hPx]
  have R2 := hide h2
  have B2 := hide (hb1.trans (hb2.mono hb1.size))
  clear h2 hb1 hb2 hP hPx
  go_wp2
  go_loopw [5] (fun vi wr => ∃ (i : Nat) (ρ : Nat → Nat) (ck : Int) (L R : Nat → List (Value × Frm)) (D : Nat → Dev) (T F : Nat → Nat), vi = .int .i64 (i : Int) ∧ i ≤ l.length ∧ Hid (Rig P ρ wr ck L R D T F i) ∧ Hid (Below W.heap.size W wr) ∧ Hid (∀ j, j < 2 → (D j).r 0 = 1 ∧ (D j).r 1 = 1)) (fun vi _ => l.length - (intOf vi).toNat)
  case atStart => exact ⟨0, _, _, _, _, _, _, _, rfl, Nat.zero_le _, R2.out, B2.out, fun _ _ => by decide⟩
  case round =>
    obtain ⟨i, ρ, ck, L, R, D, T, F, rfl, hi, hR, hB, hO⟩ := hrel
    clear R2 B2
    by_cases hlt : i < l.length
    · obtain ⟨a', cap', e', hc, hf⟩ := HI.out.below hB.out
      simp only [Value.slice.injEq] at e'
      obtain ⟨rfl, _, rfl⟩ := e'
      obtain ⟨gl, off, rfl, hgl, hcs⟩ := hc (by omega)
      obtain ⟨o, ho⟩ : ∃ o, l[i]? = some o := ⟨l[i], List.getElem?_eq_getElem hlt⟩
      obtain ⟨q0, q1, q2, q3, q4⟩ := hcs i o ho
      obtain ⟨hbv, hbl, hby⟩ := hf o (List.mem_of_getElem? ho)
      obtain ⟨dd, dc, ed, _, _⟩ := hbv.shape
      obtain ⟨kd, od, ok, ot, odv, ods⟩ := o
      simp only at q0 q1 q2 q3 q4 hbv hbl ed
      subst ed
      have zi : (i : Int) < (l.length : Int) := by omega
      have zl : (l.length : Int) ≤ 2513169434843 := by omega
      by_cases k9 : kd = 9
      · subst k9
        clear hcs hf hc ho hbv hbl hby
        go_wp2
        go_roundw
        case rel => exact ⟨i + 1, ρ, ck, L, R, D, T, F, by go_num, by omega, hR.out.more, hB.out, hO.out⟩
        case measure => simp [intOf]; omega
      by_cases k10 : kd = 10
      · subst k10
        clear hcs hf hc ho hbv hbl hby
        go_wp2
        go_roundw
        case rel => exact ⟨i + 1, ρ, ck, L, R, D, T, F, by go_num, by omega, hR.out.more, hB.out, hO.out⟩
        case measure => simp [intOf]; omega
      have y9 : (kd != 9) = true := by simp [k9]
      have y10 : (kd != 10) = true := by simp [k10]
      have DA := hide (does_any hR.out (by omega) kd od ok ot dd dc ods (hbv.avoid (fun g hg e => Nat.le_trans HPN.out e)) hbl (hide hby))
      have K9 := hide k9
      have K10 := hide k10
      clear hcs hf hc ho hbv hbl hby k9 k10
      go_wp2_with fail
      refine DA.out.mono ?_
      rintro e w4 ⟨rfl, ck', L', R', D', T', F', ⟨ρ', hr4, he4, hb4⟩, hs4⟩
      have R4 := hide hr4
      have B4 := hide (below_mine hB.out hb4 (fun g e => Nat.le_trans HPN.out (hR.out.low g e)))
      have O4 : Hid (∀ j, j < 2 → (D' j).r 0 = 1 ∧ (D' j).r 1 = 1) := fun j hj => by
        have h1 := hs4 K9.out K10.out j hj
        have h2 := hO.out j hj
        exact ⟨h1.1.trans h2.1, h1.2.trans h2.2⟩
      clear hr4 he4 hb4 hs4 DA q0 q1 q2 q3 q4
      go_wp2
      go_roundw
      case rel => exact ⟨i + 1, ρ', ck', L', R', D', T', F', by go_num, by omega, R4.out, B4.out, O4.out⟩
      case measure => simp [intOf]; omega
    · obtain rfl : i = l.length := by omega
      have AG : Hid (Aged ck 0 (ab L) D) := ⟨hO.out, fun j hj k hk => ((hR.out.i.dv j hj).pst k hk).2, fun j hj f hf => (hR.out.i.tk j hj f hf).2, fun e => by omega⟩
      have HH := hide hR.out.toHalf
      have LN0 : Hid (∀ j, j < 2 → (ab L j).length ≤ 2513169434843) := fun j hj => by have := hR.out.i.ln j hj; omega
      clear hR hO HI
      go_wp2
      go_loopw [6] (fun vt wr => ∃ (t : Nat) (ρ : Nat → Nat) (L : Nat → List (Value × Frm)) (D : Nat → Dev), vt = .int .i64 (t : Int) ∧ t ≤ 8 ∧ Hid (Half P ρ wr (ck + t) L D T F (l.length + t)) ∧ Hid (Below W.heap.size W wr) ∧ Hid (Aged ck t (ab L) D) ∧ Hid (∀ j, j < 2 → (ab L j).length ≤ 2513169434843)) (fun vt _ => 8 - (intOf vt).toNat)
      case atStart => exact ⟨0, ρ, L, D, rfl, by omega, by rw [show ck + ((0 : Nat) : Int) = ck by omega]; exact HH.out, hB.out, AG.out, LN0.out⟩
      case round =>
        obtain ⟨t, ρ, L, D, rfl, ht, hH, hB, hA, hN⟩ := hrel
        clear HH AG LN0
        have zl : (l.length : Int) ≤ 2513169434843 := by omega
        have cx := hH.out.c.cw
        have CK := hide hH.out.i.ck0
        have PS : Hid (∀ i, i < 2 → ∀ j, j < 16 → 0 ≤ (D i).posted j ∧ (D i).posted j ≤ ck + t) := fun i hi => (hH.out.i.dv i hi).pst
        have TS : Hid (∀ i, i < 2 → ∀ p ∈ L i, 0 ≤ p.2.tick ∧ p.2.tick ≤ ck + t) := fun i hi p hp => hH.out.i.tk i hi p.2 (List.mem_map.2 ⟨p, hp, rfl⟩)
        have LS : Hid (∀ i, i < 2 → (L i).length ≤ 2513169434843) := fun i hi => by have := hN.out i hi; simpa [ab] using this
        by_cases hlt : t < 8
        · have zt : (t : Int) < 8 := by omega
          have X := hide (wTick_any hH.out.n ⟨CK.out.1, by have := CK.out.2; omega⟩ PS.out TS.out LS.out)
          have IV := hide (hH.out.i.tick (by omega))
          go_wp2_with fail
          refine X.out.mono ?_
          rintro e wt ⟨rfl, Lt, dt, at'⟩
          obtain ⟨ρt, hht, et, bt⟩ := hH.out.did dt (by rw [at']; exact IV.out)
          have Ht : Hid (Half P ρt wt (ck + ((t + 1 : Nat) : Int)) Lt (tiD D (ck + t + 1)) T F (l.length + (t + 1))) := by
            rw [show ck + ((t + 1 : Nat) : Int) = ck + t + 1 by omega]; exact hht
          have Bt := hide (below_mine hB.out bt (fun g e => Nat.le_trans HPN.out (hH.out.low g e)))
          have At : Hid (Aged ck (t + 1) (ab Lt) (tiD D (ck + t + 1))) := by rw [at']; exact hA.out.tick hH.out.n.ok _ rfl
          have Nt : Hid (∀ j, j < 2 → (ab Lt j).length ≤ 2513169434843) := fun j hj => by
            rw [at', tiA_at _ _ j hj]
            exact Nat.le_trans (List.length_filter_le _ _) (hN.out j hj)
          clear dt at' hht et bt X IV cx
          go_wp2
          go_roundw
          case rel => exact ⟨t + 1, ρt, Lt, _, by go_num, by omega, Ht.out, Bt.out, At.out, Nt.out⟩
          case measure => simp [intOf]; omega
        · obtain rfl : t = 8 := by omega
          have cd0 := hH.out.c.cd 0 (by omega)
          have cd1 := hH.out.c.cd 1 (by omega)
          have dn := hA.out.dn rfl
          have e0 := dn 0 (by omega)
          have e1 := dn 1 (by omega)
          have o0 : (D 0).olB = false := by unfold Dev.olB; simp [e0.2]
          have o1 : (D 1).olB = false := by unfold Dev.olB; simp [e1.2]
          have t0 : (D 0).tkE = 7 := by unfold Dev.tkE; rw [if_pos (runs_of (hA.out.on 0 (by omega))), if_pos e0.2]
          have t1 : (D 1).tkE = 7 := by unfold Dev.tkE; rw [if_pos (runs_of (hA.out.on 1 (by omega))), if_pos e1.2]
          have XO0 := Oldest_any (hH.out.n.dev 0 (by omega)) (hH.out.n.ok 0 (by omega))
          have XO1 := Oldest_any (hH.out.n.dev 1 (by omega)) (hH.out.n.ok 1 (by omega))
          rw [o0] at XO0
          rw [o1] at XO1
          have l0 : L 0 = [] := by have := e0.1; unfold ab at this; simpa using this
          have l1 : L 1 = [] := by have := e1.1; unfold ab at this; simpa using this
          have XL0 := Len_any hH.out.n 0
          have XL1 := Len_any hH.out.n 1
          rw [show (if isDir 0 = true then ((L (0 : Int).toNat).length : Int) else 0) = 0 from by rw [if_pos (by decide)]; show ((L 0).length : Int) = 0; rw [l0]; rfl] at XL0
          rw [show (if isDir 1 = true then ((L (1 : Int).toNat).length : Int) else 0) = 0 from by rw [if_pos (by decide)]; show ((L 1).length : Int) = 0; rw [l1]; rfl] at XL1
          have XP0 := Pull_any hH.out.n 0 ⟨CK.out.1, by have := CK.out.2; omega⟩ PS.out LS.out
          rw [show plE D 0 = 7 from by unfold plE; rw [if_pos (by decide)]; exact t0] at XP0
          have td : (D 0).tkD = D 0 := by unfold Dev.tkD; rw [if_neg (by rw [t0]; omega)]
          have pd : plD D 0 = D := by
            unfold plD; rw [if_pos (by decide)]
            show upd D 0 (D 0).tkD = D
            rw [td]; exact upd_self D 0
          have pa : plA (ab L) D (ck + ((8 : Nat) : Int)) 0 = ab L := plA_no (by show (D 0).tkE ≠ 0; rw [t0]; omega)
          rw [pd, pa] at XP0
          have XP1 : Hid (∀ (ρ' : Nat → Nat) (W' : World) (L' : Nat → List (Value × Frm)), Net ρ' W' P.b P.dv (ck + ((8 : Nat) : Int)) L' D → ab L' = ab L → Calls Try.prog 22 #[.pointer (some ⟨P.b, 0, none⟩), .int .i64 1] W' fun e w' => e = .returned (.int .i64 7) ∧ But (Ro ρ') W' w') := fun ρ' W' L' n' ha => by
            have := Pull_any n' 1 ⟨CK.out.1, by have := CK.out.2; omega⟩ PS.out (fun i hi => by have h1 := hN.out i hi; rw [← ha] at h1; simpa [ab] using h1)
            rw [show plE D 1 = 7 from by unfold plE; rw [if_pos (by decide)]; exact t1] at this
            refine this.mono ?_
            rintro e w' ⟨rfl, _, ⟨_, _, _, hb⟩, _⟩
            exact ⟨rfl, hb⟩
          have HO0 := hide XO0
          have HO1 := hide XO1
          have HL0 := hide XL0
          have HL1 := hide XL1
          have HP0 := hide XP0
          have TD := hide hH.out.i
          clear XO0 XO1 XL0 XL1 XP0 dn e0 e1 o0 o1 t0 t1 l0 l1 td pd pa PS TS LS
          go_wp2_with fail
          refine HO0.out.mono ?_
          rintro e wy ⟨rfl, rfl⟩
          go_wp2_with fail
          refine HO1.out.mono ?_
          rintro e wy ⟨rfl, rfl⟩
          go_wp2_with fail
          refine HL0.out.mono ?_
          rintro e wy ⟨rfl, rfl⟩
          go_wp2_with fail
          refine HL1.out.mono ?_
          rintro e wy ⟨rfl, rfl⟩
          go_wp2_with fail
          refine HP0.out.mono ?_
          rintro e wz ⟨rfl, Lz, dz, az⟩
          obtain ⟨ρz, hz, ez, bz⟩ := hH.out.did dz (by rw [az]; exact TD.out)
          have cz := hz.c.cw
          have Bz := hide (below_mine hB.out bz (fun g e => Nat.le_trans HPN.out (hH.out.low g e)))
          have HZ := hide hz
          have AZ := hide az
          clear dz az hz ez bz cx cd0 cd1 HP0
          go_wp2_with fail
          refine (XP1.out ρz wz Lz HZ.out.n AZ.out).mono ?_
          rintro e wf ⟨rfl, bf⟩
          have Bf := hide (below_mine Bz.out (ro_mine bf) (fun g e => Nat.le_trans HPN.out (HZ.out.low g e)))
          clear bf cz
          go_wp2
          go_ret
          exact ⟨rfl, Bf.out⟩
end Go.Proofs.Ytghojbgjmpjhgaa
