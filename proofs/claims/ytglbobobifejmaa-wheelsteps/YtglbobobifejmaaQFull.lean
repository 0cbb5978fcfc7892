
/-
  WheelFull: its walk.
-/
import Derived.Test.YtglbobobifejmaaQAwake
namespace Go.Proofs.Ytglbobobifejmaa
open Go.RowKit

/-- THE SLICE VALUE v HOLDS THE NUMBERS l, all of it below n₀ -/
def IsI (n₀ : Nat) (W : World) (v : Value) (l : List Int) : Prop :=
  ∃ a cap, v = .slice a l.length cap ∧ (0 < l.length → ∃ g off, a = some ⟨g, off, none⟩ ∧ g < n₀ ∧ ∀ i x, l[i]? = some x → W.cell? ⟨g, off + i, none⟩ = some (.int .i64 x))
theorem IsI.below {n₀ : Nat} {W W' : World} {v : Value} {l : List Int} (h : IsI n₀ W v l) (hb : Below n₀ W W') : IsI n₀ W' v l := by
  obtain ⟨a, cap, e, hc⟩ := h
  refine ⟨a, cap, e, fun h0 => ?_⟩
  obtain ⟨g, off, e1, hg, hcs⟩ := hc h0
  exact ⟨g, off, e1, hg, fun i x hi => (hb.cell (p := ⟨g, off + i, none⟩) hg).trans (hcs i x hi)⟩

theorem five_out {L : List (Int × Int)} (h : ∀ p ∈ L, p.2 = 5) : OutOf L 5 L := by
  refine ⟨?_, fun τ => ?_⟩
  · induction L with
    | nil => exact List.Pairwise.nil
    | cons p l ih =>
      refine List.Pairwise.cons (fun q hq => ?_) (ih (fun q hq => h q (List.mem_cons_of_mem _ hq)))
      rw [h p (List.mem_cons_self ..), h q (List.mem_cons_of_mem _ hq)]; omega
  · rw [show L.filter (fun p => decide (p.2 ≤ 5)) = L from List.filter_eq_self.2 (fun p hp => by rw [h p hp]; rfl)]
theorem five_stay {L : List (Int × Int)} (h : ∀ p ∈ L, p.2 = 5) : stay L 5 = [] := by
  unfold stay; rw [List.filter_eq_nil_iff]; exact fun p hp => by rw [h p hp]; simp
theorem five_arm {L : List (Int × Int)} (h : ∀ p ∈ L, p.2 = 5) (id : Int) : ∀ p ∈ noId L id ++ [(id, 5)], p.2 = 5 := fun p hp => by
  rcases List.mem_append.1 hp with q | q
  · exact h p (List.mem_filter.1 q).1
  · simp only [List.mem_cons, List.not_mem_nil, or_false] at q; rw [q]

set_option maxRecDepth 100000 in
set_option maxHeartbeats 8000000 in
theorem Full_walk (v : Value) (l : List Int) (W : World) (hI : IsI W.heap.size W v l) (hl : l.length ≤ 140737488351232) :
    Calls Try.prog 6 #[v] W fun e W' => e = .returned (.bool true) ∧ Below W.heap.size W W' := by
  have HI := hide hI
  obtain ⟨a, cap, rfl, _⟩ := hI
  go_enter Try.func6, Try.ntmps6
  go_wp2_with fail
  refine (awake_any W).mono ?_
  rintro e w1 ⟨rfl, hb1⟩
  go_wp2_with fail
  refine (On.new w1 0 (by decide)).mono ?_
  rintro e w2 ⟨rfl, ho, hb2⟩
  obtain ⟨b, hb⟩ : ∃ b, w1.heap.size = b := ⟨_, rfl⟩
  obtain ⟨n, hn⟩ : ∃ n, W.heap.size = n := ⟨_, rfl⟩
  rw [hb] at ho
  rw [hb]
  rw [hn] at HI
  have B2 : Hid (Below n W w2) := by rw [← hn]; exact hb1.trans (hb2.mono hb1.size)
  have nb : n ≤ b := by rw [← hn, ← hb]; exact hb1.size
  have H2 : Hid (On n w2 b 0 []) := by obtain ⟨ρ, k1, k2⟩ := ho; exact ⟨ρ, k1, fun g e => Nat.le_trans nb (k2 g e)⟩
  have HN := hide hn
  clear ho hb2 hb1 hb hn nb
  go_wp2
  go_loopw [6, 7] (fun vm vi wr => ∃ (i : Nat) (L : List (Int × Int)), vm = .int .i64 (L.length : Int) ∧ vi = .int .i64 (i : Int) ∧ i ≤ l.length ∧ Hid (On n wr b 0 L) ∧ Hid (∀ p ∈ L, p.2 = 5) ∧ Hid (Below n W wr)) (fun _ vi _ => l.length - (intOf vi).toNat)
  case atStart => exact ⟨0, [], rfl, rfl, Nat.zero_le _, H2.out, (fun _ h => by cases h), B2.out⟩
  case round =>
    obtain ⟨i, L, rfl, rfl, hi, H, H5, HB⟩ := hrel
    have l64 := H.out.len64
    have NS : Hid (n ≤ wr.heap.size) := Nat.le_trans H.out.bge (Nat.le_of_lt H.out.blt)
    by_cases hlt : i < l.length
    · obtain ⟨a', cap', e', hc⟩ := HI.out.below HB.out
      simp only [Value.slice.injEq] at e'
      obtain ⟨rfl, _, rfl⟩ := e'
      obtain ⟨gl, off, rfl, hgl, hcs⟩ := hc (by omega)
      obtain ⟨x, hx⟩ : ∃ o, l[i]? = some o := ⟨l[i], List.getElem?_eq_getElem hlt⟩
      have q0 := hcs i x hx
      have GL := hide hgl
      have Q0 := hide q0
      clear hcs hc hx
      by_cases hneg : x < 0
      · go_wp2
        go_roundw
        case rel => exact ⟨i + 1, L, rfl, by go_num, by omega, H.out, H5.out, HB.out⟩
        case measure => simp [intOf]; omega
      · have D := H.out.due NS.out x
        rw [has_due] at D
        generalize (dueOf L x).getD 0 = dd at D
        have HD := hide D
        clear D
        go_wp2_with fail
        refine HD.out.mono ?_
        rintro e w3 ⟨rfl, h3, b3⟩
        have N3 : Hid (n ≤ w3.heap.size) := Nat.le_trans NS.out b3.size
        have q3 := (b3.cell (p := ⟨gl, off + i, none⟩) GL.out).trans Q0.out
        have A := h3.arm N3.out (by decide) x 5
        have B3 := hide (HB.out.trans b3)
        have hbd : arBad 0 x 5 = false := by
          unfold arBad
          rw [decide_eq_false (show ¬ x < 0 by omega)]; rfl
        have e1 : arE 0 L x 5 = if has L x = false ∧ L.length = 64 then 6 else 0 := by rw [arE, hbd, if_neg (by decide)]
        have AL := arm_len (id := x) H.out.uniq 5
        unfold arL at A
        rw [e1] at A
        clear HD b3 q0 h3 hbd e1
        cases hh : has L x with
        | true =>
          rw [hh] at A AL
          rw [if_neg (by simp), if_pos rfl] at A
          rw [if_pos rfl] at AL
          have HA := hide A
          have F5 := hide (five_arm H5.out x)
          obtain ⟨L', hL'⟩ : ∃ L', noId L x ++ [(x, 5)] = L' := ⟨_, rfl⟩
          rw [hL'] at HA F5 AL
          rw [← AL] at l64 ⊢
          clear A AL hL' H H5 HB NS hh
          go_wp2_with fail
          refine HA.out.mono ?_
          rintro e w4 ⟨rfl, h4, b4⟩
          have LN := hide h4.len
          have H4 := hide h4
          have B4 := hide (B3.out.trans b4)
          clear h4 b4 HA B3
          go_wp2_with fail
          refine LN.out.mono ?_
          rintro e w5 ⟨rfl, rfl⟩
          clear LN
          go_wp2
          go_roundw
          case rel => exact ⟨i + 1, L', rfl, by go_num, by omega, H4.out, F5.out, B4.out⟩
          case measure => simp [intOf]; omega
        | false =>
          rw [hh] at A AL
          by_cases h6 : L.length = 64
          · rw [if_pos ⟨rfl, h6⟩, if_neg (by decide)] at A
            have HA := hide A
            have z6 : (L.length : Int) = 64 := by omega
            rw [z6]
            clear A AL H HB NS hh
            go_wp2_with fail
            refine HA.out.mono ?_
            rintro e w4 ⟨rfl, h4, b4⟩
            have LN := h4.len
            rw [z6] at LN
            have LN := hide LN
            have H4 := hide h4
            have B4 := hide (B3.out.trans b4)
            have Z6 := hide z6
            clear h4 b4 HA B3
            go_wp2_with fail
            refine LN.out.mono ?_
            rintro e w5 ⟨rfl, rfl⟩
            clear LN
            go_wp2
            go_roundw
            case rel => exact ⟨i + 1, L, by rw [Z6.out], by go_num, by omega, H4.out, H5.out, B4.out⟩
            case measure => simp [intOf]; omega
          · rw [if_neg (fun q => h6 q.2), if_pos rfl] at A
            rw [if_neg (by simp)] at AL
            have HA := hide A
            have F5 := hide (five_arm H5.out x)
            obtain ⟨L', hL'⟩ : ∃ L', noId L x ++ [(x, 5)] = L' := ⟨_, rfl⟩
            rw [hL'] at HA F5 AL
            have AL := hide AL
            have zl : (L.length : Int) < 64 := by omega
            clear A hL' H H5 HB NS hh h6
            go_wp2_with fail
            refine HA.out.mono ?_
            rintro e w4 ⟨rfl, h4, b4⟩
            have LN := h4.len
            rw [AL.out] at LN
            have LN := hide LN
            have H4 := hide h4
            have B4 := hide (B3.out.trans b4)
            clear h4 b4 HA B3
            go_wp2_with fail
            refine LN.out.mono ?_
            rintro e w5 ⟨rfl, rfl⟩
            clear LN
            go_wp2
            go_roundw
            case rel => exact ⟨i + 1, L', by rw [AL.out]; go_num, by go_num, by omega, H4.out, F5.out, B4.out⟩
            case measure => simp [intOf]; omega
    · obtain rfl : i = l.length := by omega
      have AD := hide (H.out.adv NS.out 5 (by decide))
      go_wp2_with fail
      refine AD.out.mono ?_
      rintro e w3 ⟨O, vo, rfl, ho, hr, h3, b3⟩
      obtain rfl : O = L := ho.same (five_out H5.out)
      rw [five_stay H5.out] at h3
      have A : Calls Try.prog 11 #[.pointer (some ⟨b, 0, none⟩), .int .i64 1099511627776, .int .i64 6] w3 fun e w' => e = .returned (.int .i64 0) ∧ On n w' b 5 [(1099511627776, 6)] ∧ Below n w3 w' := h3.arm (Nat.le_trans NS.out b3.size) (by decide) 1099511627776 6
      have HA := hide A
      have B3 := hide (HB.out.trans b3)
      obtain ⟨av, cv, rfl⟩ : ∃ a c, vo = .slice a O.length c := by
        rcases hr.2 with ⟨rfl, e⟩ | ⟨g, cap, cur, rfl, _⟩
        · exact ⟨none, 0, by rw [e]⟩
        · exact ⟨_, _, rfl⟩
      clear AD ho hr h3 b3 A H H5 HB NS
      go_wp2_with fail
      refine HA.out.mono ?_
      rintro e w4 ⟨rfl, h4, b4⟩
      have LN : Hid (Calls Try.prog 23 #[.pointer (some ⟨b, 0, none⟩)] w4 fun e w' => e = .returned (.int .i64 1) ∧ w' = w4) := h4.len
      have B4 := hide (B3.out.trans b4)
      clear HA h4 b4 B3
      go_wp2_with fail
      refine LN.out.mono ?_
      rintro e w5 ⟨rfl, rfl⟩
      clear LN
      go_wp2
      go_ret
      exact ⟨rfl, by rw [HN.out]; exact B4.out⟩
end Go.Proofs.Ytglbobobifejmaa
