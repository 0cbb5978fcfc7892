
/-
  Package wire: what 'waiting' tells; what is let go of in a device's ring.
-/
import Derived.Test.YtghojbgjmpjhgaaW13
namespace Go.Proofs.Ytghojbgjmpjhgaa
open Go.RowKit Go.Shelf
attribute [local go_sem] Oper.semAt_some

/-- how many stand in the ring for sending -/
def spnD (D : Dev) : Nat := (D.r 5 + 16 - D.r 4).toNat % 16
theorem spn_tk {D : Dev} (ok : D.Ok) (h : D.tkE = 0) : spnD D.tkD + 1 = spnD D := by
  have h4 := ok.ring 4 (by omega) (by omega)
  have h5 := ok.ring 5 (by omega) (by omega)
  have hne : ¬ D.r 4 = D.r 5 := by
    intro e
    unfold Dev.tkE at h
    split at h <;> simp_all
  have e4 : D.tkD.r 4 = nxt (D.r 4) := by unfold Dev.tkD; rw [if_pos h]; simp [upd]
  have e5 : D.tkD.r 5 = D.r 5 := by unfold Dev.tkD; rw [if_pos h]; simp [upd]
  unfold spnD
  rw [e4, e5]
  unfold nxt
  omega
theorem spn_ol {D : Dev} (ok : D.Ok) (h : D.olB = true) : 1 ≤ spnD D := by
  have h4 := ok.ring 4 (by omega) (by omega)
  have h5 := ok.ring 5 (by omega) (by omega)
  unfold Dev.olB at h
  simp only [decide_eq_true_eq] at h
  unfold spnD
  omega

/-- from the head on, as long as they are too old and can be taken -/
def lg : Nat → Int → Dev → Dev
  | 0, _, D => D
  | n + 1, ck, D => if D.olB = true ∧ old ck D.olT = true ∧ D.tkE = 0 then lg n ck D.tkD else D
theorem lg_stay {n : Nat} {ck : Int} {D : Dev} (h : ¬ (D.olB = true ∧ old ck D.olT = true ∧ D.tkE = 0)) : lg n ck D = D := by
  cases n with
  | zero => rfl
  | succ n => unfold lg; rw [if_neg h]
theorem lg_go {n : Nat} {ck : Int} {D : Dev} (h : D.olB = true ∧ old ck D.olT = true ∧ D.tkE = 0) : lg (n + 1) ck D = lg n ck D.tkD := by
  show (if _ then _ else _) = _; rw [if_pos h]
theorem tk_posted {D : Dev} : D.tkD.posted = D.posted ∧ D.tkD.clock = D.clock := by unfold Dev.tkD; split <;> exact ⟨rfl, rfl⟩

def cellI (W : World) (d k : Nat) : Int := intOf ((W.cell? ⟨d, k, none⟩).getD undef)

set_option maxRecDepth 100000 in
set_option maxHeartbeats 2000000 in
theorem waiting_tells (n : Nat) (hn : 1 ≤ n) (Bd d : Nat) (A : Nat → Prop) (I : Nat × Dev → World → Prop) (hI : ∀ s W, I s W → W.cell? ⟨Bd, 0, none⟩ = some (.pointer (some ⟨d, 0, none⟩)) ∧ DevAt LN A W d s.2 ∧ s.2.Ok) (s0 : Nat × Dev) :
    Tells n 83 #[.pointer (some ⟨Bd, 0, none⟩)] I (fun s args => s.2.olB = true ∧ args = #[.int .i64 s.2.olT]) (fun s _ s' => s' = (s.1 + 1, s.2.tkD) ∧ s.2.tkE = 0) (fun s => s.2.olB = false) s0 := by
  intro lp B Bx W hBa hXa hBd hXd hY h0 hB0
  obtain ⟨c0, hd0, ok0⟩ := hI s0 W h0
  have OL := hide (Oldest_any hd0 ok0)
  have HI := hide hI
  have HY := hide hY
  have HI0 := hide h0
  have HB0 := hide hB0
  clear hY h0 hB0 hI hBa hXa hBd hXd hd0 ok0
  refine callsIn_of_wp Try.func83 rfl trivial ?_ rfl
  simp only [Try.ntmps83, List.size_toArray, List.length_cons, List.length_nil, Nat.reduceAdd, Nat.reduceSub, Array.replicate_succ, Array.replicate_zero, List.push_toArray, List.append_toArray, List.nil_append, List.cons_append]
  gi_wp2_with fail
  refine ⟨trivial, ?_⟩
  refine (callsIn_wide.2 OL.out).mono ?_
  rintro e W1 ⟨rfl, rfl⟩
  clear OL c0
  gi_wp2
  gi_loopw [3, 4] (fun v3 v4 wr => ∃ (s : Nat × Dev), v3 = .int .i64 s.2.olT ∧ v4 = .bool s.2.olB ∧ Hid (I s wr) ∧ Hid (B wr)) (fun _ _ wr => (cellI wr d 5 + 16 - cellI wr d 4).toNat % 16)
  case atStart => exact ⟨s0, rfl, rfl, HI0.out, HB0.out⟩
  case round =>
    obtain ⟨s, rfl, rfl, hIs, hBs⟩ := hrel
    cases ho : s.2.olB with
    | false =>
      have HO := hide ho
      clear ho
      gi_wp2
      refine ⟨fun f hf => (by cases hf), ?_⟩
      gi_wp2
      go_end0
      exact ⟨⟨_, rfl⟩, .inl ⟨s, HO.out, hIs.out, hBs.out⟩⟩
    | true =>
      obtain ⟨fn, tmps, assign, body, hy, hR⟩ := HY.out s wr #[.int .i64 s.2.olT] hIs.out hBs.out ⟨ho, rfl⟩
      have HRd := hide hR
      have HO := hide ho
      have ME : Hid ((cellI wr d 5 + 16 - cellI wr d 4).toNat % 16 = spnD s.2) := by
        obtain ⟨_, hd, _⟩ := HI.out s wr hIs.out
        unfold cellI spnD Hid
        rw [hd.creg 5 (by omega), hd.creg 4 (by omega)]; rfl
      have OKs := hide (HI.out s wr hIs.out).2.2
      clear ho hR
      gi_wp2
      refine HRd.out.mono ?_
      rintro e W4 (⟨rfl, s', ⟨rfl, htk⟩, hI4, hB4⟩ | ⟨rfl, hX⟩)
      · obtain ⟨c4, hd4, ok4⟩ := HI.out _ W4 hI4
        have OL := hide (Oldest_any hd4 ok4)
        have ME4 : Hid ((cellI W4 d 5 + 16 - cellI W4 d 4).toNat % 16 = spnD s.2.tkD) := by
          unfold cellI spnD Hid
          rw [hd4.creg 5 (by omega), hd4.creg 4 (by omega)]; rfl
        have SP := hide (spn_tk OKs.out htk)
        have HI4 := hide hI4
        have HB4 := hide hB4
        clear hI4 hB4 HRd hy hd4 ok4 htk
        gi_wp2_with fail
        refine ⟨trivial, ?_⟩
        refine (callsIn_wide.2 OL.out).mono ?_
        rintro e W5 ⟨rfl, rfl⟩
        clear OL c4
        gi_wp2
        go_roundw
        case rel => exact ⟨_, rfl, rfl, HI4.out, HB4.out⟩
        case measure =>
          have h1 := ME.out
          have h2 := ME4.out
          have h3 := SP.out
          omega
      · have HX := hide hX
        clear hX HRd hy
        gi_wp2
        go_end0
        exact ⟨⟨_, rfl⟩, .inr HX.out⟩
end Go.Proofs.Ytghojbgjmpjhgaa
