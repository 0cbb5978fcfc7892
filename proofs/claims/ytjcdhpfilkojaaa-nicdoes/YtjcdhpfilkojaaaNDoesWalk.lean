/-
  NicDoes: its walk.
-/
import Derived.Test.YtjcdhpfilkojaaaNDoes
import Derived.Test.YtjcdhpfilkojaaaNLaw
namespace Go.Proofs.Ytjcdhpfilkojaaa
open Go.RowKit

theorem does_any {A A' : Nat → Prop} {b1 b2 : Nat} {D : Dev} {w : World} (hN : DevAt LN A w b1 D) (hR : DevAt LR A w b2 D) (ok : D.Ok) (hA : ∀ g, A g → g < w.heap.size) (hne : b1 ≠ b2) (hA1 : A' b1) (hA2 : A' b2) (kind n v : Int) (bv : Value) (bs : List Int) (yes : Bool) (hv : IsF A' w bv bs) (hl : bs.length ≤ 140737488351232) :
    Calls Try.prog 10 #[.pointer (some ⟨b1, 0, none⟩), .pointer (some ⟨b2, 0, none⟩), .agg #[.int .i64 kind, .int .i64 n, .int .i64 v, bv, .bool yes]] w (Both A b1 b2 w) := by
  by_cases k0 : kind = 0
  · subst k0; exact does_0 hN hR ok hA hne hA1 hA2 n v bv bs yes hv hl
  by_cases k1 : kind = 1
  · subst k1; exact does_1 hN hR ok hA hne hA1 hA2 n v bv bs yes hv hl
  by_cases k2 : kind = 2
  · subst k2; exact does_2 hN hR ok hA hne hA1 hA2 n v bv bs yes hv hl
  by_cases k3 : kind = 3
  · subst k3; exact does_3 hN hR ok hA hne hA1 hA2 n v bv bs yes hv hl
  by_cases k4 : kind = 4
  · subst k4; exact does_4 hN hR ok hA hne hA1 hA2 n v bv bs yes hv hl
  by_cases k5 : kind = 5
  · subst k5; exact does_5 hN hR ok hA hne hA1 hA2 n v bv bs yes hv hl
  by_cases k6 : kind = 6
  · subst k6; exact does_6 hN hR ok hA hne hA1 hA2 n v bv bs yes hv hl
  by_cases k7 : kind = 7
  · subst k7; exact does_7 hN hR ok hA hne hA1 hA2 n v bv bs yes hv hl
  by_cases k8 : kind = 8
  · subst k8; exact does_8 hN hR ok hA hne hA1 hA2 n v bv bs yes hv hl
  exact does_9 hN hR ok hA hne hA1 hA2 kind k0 k1 k2 k3 k4 k5 k6 k7 k8 n v bv bs yes hv hl

set_option maxRecDepth 100000 in
set_option maxHeartbeats 4000000 in
theorem Does_walk (v : Value) (l : List OpV) (W : World) (hI : IsO W.heap.size W v l) (hl : l.length ≤ 2513169434843) :
    Calls Try.prog 3 #[v] W fun e W' => e = .returned (.bool true) ∧ Below W.heap.size W W' := by
  have HI := hide hI
  obtain ⟨a, cap, rfl, _, _⟩ := hI
  go_enter Try.func3, Try.ntmps3
  go_wp2_with fail
  refine (awake_any W).mono ?_
  rintro e w1 ⟨rfl, hb1⟩
  go_wp2_with fail
  refine (New_any w1).mono ?_
  rintro e w2 ⟨rfl, hN, hb2, hs2⟩
  obtain ⟨b1, hg1⟩ : ∃ b1, b1 = w1.heap.size := ⟨_, rfl⟩
  have d2 := fun A hA => hN A hA
  rw [← hg1] at d2 ⊢
  have hw1 : W.heap.size ≤ b1 := by rw [hg1]; exact hb1.size
  have b12 := hb1.trans (hb2.mono hb1.size)
  have s2 : w2.heap.size = b1 + 1 := by omega
  have D2 := hide d2
  have B2 := hide b12
  have HW1 := hide hw1
  have S2 := hide s2
  clear hN hb2 hs2 hg1 d2 b12 hb1 hw1 s2
  go_wp2_with fail
  refine (rNew_any w2).mono ?_
  rintro e w3 ⟨rfl, hN, hb3, hs3⟩
  obtain ⟨b2, hg2⟩ : ∃ b2, b2 = w2.heap.size := ⟨_, rfl⟩
  have HNE : Hid (b1 ≠ b2) := by have := S2.out; show b1 ≠ b2; omega
  have DN := hide ((D2.out (Two b1 b2) (.inl rfl)).later hb3)
  have DR := hN (Two b1 b2) (.inr hg2.symm)
  rw [← hg2] at DR ⊢
  have DR' := hide DR
  have HW2 : Hid (W.heap.size ≤ b2) := by rw [hg2]; exact B2.out.size
  have B3 := hide (B2.out.trans (hb3.mono B2.out.size))
  clear hN hb3 hs3 hg2 DR D2 B2 S2
  have kp : ∀ X Y : World, Below W.heap.size W X → But (Two b1 b2) X Y → Below W.heap.size W Y := fun X Y h k => h.trans (k.below h.size (fun x hx e => by rcases e with e | e <;> (have h1 := HW1.out; have h2 := HW2.out; omega)))
  have KP := hide kp
  clear kp
  go_wp2
  go_loopw [6] (fun vi wr => ∃ (i : Nat) (D : Dev), vi = .int .i64 i ∧ i ≤ l.length ∧ DevAt LN (Two b1 b2) wr b1 D ∧ DevAt LR (Two b1 b2) wr b2 D ∧ D.Ok ∧ Below W.heap.size W wr) (fun vi _ => l.length - (intOf vi).toNat)
  case atStart => exact ⟨0, Dev.new, rfl, Nat.zero_le _, DN.out, DR'.out, Dev.Ok.new, B3.out⟩
  case round =>
    obtain ⟨i, D, rfl, hi, hd, hr, hok, hB⟩ := hrel
    by_cases hlt : i < l.length
    · obtain ⟨a', cap', e', hc, hf⟩ := HI.out.below hB
      simp only [Value.slice.injEq] at e'
      obtain ⟨rfl, _, rfl⟩ := e'
      obtain ⟨gl, off, rfl, hgl, hcs⟩ := hc (by omega)
      obtain ⟨o, ho⟩ : ∃ o, l[i]? = some o := ⟨l[i], List.getElem?_eq_getElem hlt⟩
      obtain ⟨q0, q1, q2, q3, q4⟩ := hcs i o ho
      obtain ⟨hbv, hbl⟩ := hf o (List.mem_of_getElem? ho)
      have P := hide (does_any hd hr hok (fun x e => by rcases e with e | e; rw [e]; exact hd.lt; rw [e]; exact hr.lt) HNE.out HW1.out HW2.out o.kind o.n o.v o.bv o.bs o.yes hbv hbl)
      have HB := hide hB
      clear hcs hf hc ho hbv hbl hd hr hok hB hgl
      obtain ⟨kd, on, ov, obv, obs, oy⟩ := o
      simp only at q0 q1 q2 q3 q4 P
      go_wp2_with fail
      refine (P.out).mono ?_
      rintro e w4 ⟨rfl, D4, ok4, d4, r4, b4⟩
      have HD4 := hide d4
      have HR4 := hide r4
      have O4 := hide ok4
      have B4 := hide (KP.out _ _ HB.out b4)
      clear d4 r4 ok4 b4 P HB q0 q1 q2 q3 q4
      go_wp2
      go_loopw [8] (fun vi wr => ∃ (k : Nat), vi = .int .i64 k ∧ k ≤ 8 ∧ DevAt LN (Two b1 b2) wr b1 D4 ∧ DevAt LR (Two b1 b2) wr b2 D4 ∧ Below W.heap.size W wr) (fun vi _ => 8 - (intOf vi).toNat)
      case atStart => exact ⟨0, rfl, by omega, HD4.out, HR4.out, B4.out⟩
      case round =>
        obtain ⟨k, rfl, hk, hd, hr, hB⟩ := hrel
        by_cases hk8 : k < 8
        · by_cases e6 : k = 6
          · subst e6
            have HD := hide hd
            have HR := hide hr
            have HB := hide hB
            clear hd hr hB
            go_wp2
            go_roundw
            case rel => exact ⟨7, by go_num, by omega, HD.out, HR.out, HB.out⟩
            case measure => simp [intOf]
          · have Rd := Read_any hd (k : Int)
            rw [show D4.rdV (k : Int) = D4.r k from by unfold Dev.rdV; rw [if_pos (by omega), Int.toNat_natCast], show rdE (k : Int) = 0 from by unfold rdE; rw [if_pos (by omega)], show D4.rdD (k : Int) = D4 from by unfold Dev.rdD; rw [if_neg (by omega)]] at Rd
            have HRd := hide Rd
            have HR := hide hr
            have HB := hide hB
            have q6 : ((k : Int) == 6) = false := beq_no (by omega)
            have hki : (k : Int) < 8 := by omega
            clear Rd hd hr hB e6
            go_wp2_with fail
            refine (HRd.out).mono ?_
            rintro e w5 ⟨rfl, d5, b5⟩
            have r5 := HR.out.but b5 (fun g e => .inl e) (fun e => HNE.out (Eq.symm e))
            have c5 := r5.creg k hk8
            have HD5 := hide d5
            have HR5 := hide r5
            have B5 := hide (KP.out _ _ HB.out (one_two b5))
            generalize D4.r k = x at c5
            clear d5 r5 b5 HRd HR HB
            go_wp2
            go_roundw
            case rel => exact ⟨k + 1, by go_num, by omega, HD5.out, HR5.out, B5.out⟩
            case measure => simp [intOf]; omega
        · rw [show ((k : Nat) : Int) = 8 from by omega]
          have O1 := hide (Oldest_any hd O4.out)
          have O2 := hide (rOldest_any hr O4.out)
          have HD := hide hd
          have HR := hide hr
          have HB := hide hB
          clear hd hr hB hk hk8
          go_wp2_with fail
          refine (O1.out).mono ?_
          rintro e w5 ⟨rfl, rfl⟩
          clear O1
          go_wp2_with fail
          refine (O2.out).mono ?_
          rintro e w5 ⟨rfl, rfl⟩
          clear O2
          generalize D4.olT = ot
          generalize D4.olB = ob
          go_wp2
          go_roundw
          case rel => exact ⟨i + 1, D4, by go_num, by omega, HD.out, HR.out, O4.out, HB.out⟩
          case measure => simp [intOf]; omega
    · obtain rfl : i = l.length := by omega
      have Rd := Read_any hd 6
      simp only [show D.rdV 6 = D.r 6 from rfl, show rdE 6 = 0 from rfl] at Rd
      have HRd := hide Rd
      have HR := hide hr
      have HB := hide hB
      clear Rd hd hr hB hok
      go_wp2_with fail
      refine (HRd.out).mono ?_
      rintro e w5 ⟨rfl, _, b5⟩
      have c5 := (HR.out.but b5 (fun g e => .inl e) (fun e => HNE.out (Eq.symm e))).creg 6 (by omega)
      have B5 := hide (KP.out _ _ HB.out (one_two b5))
      generalize D.r 6 = x at c5
      clear b5 HRd HR HB
      go_wp2
      go_ret
      exact ⟨rfl, B5.out⟩

end Go.Proofs.Ytjcdhpfilkojaaa
