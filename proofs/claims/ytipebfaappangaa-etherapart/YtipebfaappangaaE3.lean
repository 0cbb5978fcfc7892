
/-
  The document's Mine.
-/
import Derived.Test.YtipebfaappangaaE2
namespace Go.Proofs.Ytipebfaappangaa
open Go.RowKit

def M6.at (m : M6) : Nat → Int
  | 0 => m.a
  | 1 => m.b
  | 2 => m.c
  | 3 => m.d
  | 4 => m.e
  | _ => m.f
def allK (m : M6) : Nat → Bool
  | 0 => true
  | k + 1 => allK m k && (m.at k == 255)
theorem allK_six (m : M6) : allK m 6 = eqM m mAll := by
  obtain ⟨a, b, c, d, e, f⟩ := m
  unfold mAll
  rw [eqM_six]
  simp [allK, M6.at, Bool.and_assoc]
theorem lt6 {k : Nat} (h : k < 6) : k = 0 ∨ k = 1 ∨ k = 2 ∨ k = 3 ∨ k = 4 ∨ k = 5 := by omega
theorem FrAt.dst {W : World} {s : Nat} {f : Fr} (h : FrAt W s f) (k : Nat) (hk : k < 6) : W.cell? ⟨s, k, none⟩ = some (.int .u8 (f.dst.at k)) := by
  rcases lt6 hk with rfl | rfl | rfl | rfl | rfl | rfl
  · exact h.c0
  · exact h.c1
  · exact h.c2
  · exact h.c3
  · exact h.c4
  · exact h.c5
theorem FrAt.src {W : World} {s : Nat} {f : Fr} (h : FrAt W s f) (k : Nat) (hk : k < 6) : W.cell? ⟨s, 6 + k, none⟩ = some (.int .u8 (f.src.at k)) := by
  rcases lt6 hk with rfl | rfl | rfl | rfl | rfl | rfl
  · exact h.c6
  · exact h.c7
  · exact h.c8
  · exact h.c9
  · exact h.c10
  · exact h.c11

set_option maxHeartbeats 4000000 in
theorem rMine_any (f : Fr) (own : M6) (vlan : Int) (w : World) (h0 : 0 ≤ f.src.a) (h1 : f.src.a ≤ 255) : Calls Try.prog 14 #[f.val, own.val, .int .i64 vlan] w fun e w' => e = .returned (.bool (miB f own vlan)) ∧ Below w.heap.size w w' := by
  have B2 := hide (later (later_alloc w (.cells f.cells 25)) (later_alloc _ (.cells own.cells 23)))
  have F2 := hide ((FrAt.new w f 25).al (.cells own.cells 23))
  have M2 := hide (MaAt.new (w.alloc (.cells f.cells 25)) own 23)
  rw [World.size_alloc] at M2
  have FD := hide F2.out.dst
  obtain ⟨m, hm⟩ : ∃ m, miB f own vlan = m := ⟨_, rfl⟩
  rw [hm]
  have HM := hide hm
  clear hm
  obtain ⟨A, hA⟩ : ∃ A, allK f.dst = A := ⟨_, rfl⟩
  have HA0 : Hid (A 0 = true) := by show _ = _; rw [← hA]; rfl
  have HA : Hid (∀ k, A (k + 1) = (A k && (f.dst.at k == 255))) := fun k => by rw [← hA]; rfl
  have HA6 : Hid (A 6 = eqM f.dst mAll) := by show _ = _; rw [← hA]; exact allK_six _
  clear hA
  obtain ⟨N, hN⟩ : ∃ N, f.dst.at = N := ⟨_, rfl⟩
  rw [hN] at FD HA
  clear hN
  obtain ⟨⟨d0, d1, d2, d3, d4, d5⟩, ⟨s0, s1, s2, s3, s4, s5⟩, t, v, p, y⟩ := f
  obtain ⟨o0, o1, o2, o3, o4, o5⟩ := own
  simp only [Fr.val, Fr.cells, M6.val, M6.cells] at B2 F2 M2 FD h0 h1 HA6 ⊢
  have EM := eq_mac
  go_enter Try.func14, Try.ntmps14
  go_wp2
  obtain ⟨W2, e2⟩ : ∃ W2, (w.alloc (.cells #[.int .u8 d0, .int .u8 d1, .int .u8 d2, .int .u8 d3, .int .u8 d4, .int .u8 d5, .int .u8 s0, .int .u8 s1, .int .u8 s2, .int .u8 s3, .int .u8 s4, .int .u8 s5, .bool t, .int .i64 v, .int .i64 p, .int .i64 y] 25)).alloc (.cells #[.int .u8 o0, .int .u8 o1, .int .u8 o2, .int .u8 o3, .int .u8 o4, .int .u8 o5] 23) = W2 := ⟨_, rfl⟩
  rw [e2] at B2 F2 M2 FD ⊢
  clear e2
  go_loop [7, 8] (fun v7 v8 => ∃ k : Nat, v8 = .int .i64 (k : Int) ∧ v7 = .bool (A k) ∧ k ≤ 6) (fun _ v8 => 6 - (intOf v8).toNat)
  case atStart => exact ⟨0, rfl, by rw [HA0.out], Nat.zero_le _⟩
  case round =>
    obtain ⟨k, rfl, rfl, hk⟩ := hrel
    by_cases hlt : k < 6
    · have c := FD.out k hlt
      cases hAk : A k
      · go_wp2
        go_round
        case rel => exact ⟨k + 1, by go_num, by rw [HA.out, hAk]; rfl, by omega⟩
        case measure => simp [intOf]; omega
      · obtain ⟨z, hz⟩ : ∃ z, N k = z := ⟨_, rfl⟩
        rw [hz] at c
        replace hz := hide hz
        go_wp2
        go_round
        case rel => exact ⟨k + 1, by go_num, by rw [HA.out, hAk, hz.out]; rfl, by omega⟩
        case measure => simp [intOf]; omega
    · obtain rfl : k = 6 := by omega
      rw [HA6.out]
      obtain ⟨a6, h6⟩ : ∃ a6, eqM ⟨d0, d1, d2, d3, d4, d5⟩ mAll = a6 := ⟨_, rfl⟩
      rw [h6]
      have H6 := hide h6
      clear h6 HA6 HA HA0 FD
      obtain ⟨f0, f1, f2, f3, f4, f5, f6, f7, f8, f9, f10, f11, f12, f13, f14, f15, -⟩ := F2.out
      obtain ⟨g0, g1, g2, g3, g4, g5, -⟩ := M2.out
      clear F2 M2
      obtain ⟨C, hC⟩ : ∃ C, ((eqM ⟨d0, d1, d2, d3, d4, d5⟩ ⟨o0, o1, o2, o3, o4, o5⟩ || a6) && (!eqM ⟨s0, s1, s2, s3, s4, s5⟩ ⟨o0, o1, o2, o3, o4, o5⟩ && !(s0 % 2 == 1))) = C := ⟨_, rfl⟩
      have HC := hide hC
      clear hC
      go_upto_region 6 with fail
      go_cut [41] (fun c wc => c = .bool (!C) ∧ wc = W2)
      case first =>
        cases hd : eqM ⟨d0, d1, d2, d3, d4, d5⟩ ⟨o0, o1, o2, o3, o4, o5⟩ <;> cases a6 <;> cases hs : eqM ⟨s0, s1, s2, s3, s4, s5⟩ ⟨o0, o1, o2, o3, o4, o5⟩ <;> cases ho : (s0 % 2 == 1)
        all_goals go_wp2
        all_goals go_meet
        all_goals exact ⟨by rw [← HC.out, hd, hs, ho]; rfl, rfl⟩
      case rest =>
        obtain ⟨rfl, rfl⟩ := hcut
        have E : Hid (m = (C && inB ⟨⟨d0, d1, d2, d3, d4, d5⟩, ⟨s0, s1, s2, s3, s4, s5⟩, t, v, p, y⟩ vlan)) := by show _ = _; rw [← HM.out, ← HC.out, ← H6.out, beq_dec]; rfl
        clear HM HC H6
        cases C
        · go_wp2
          go_ret
          exact ⟨by rw [E.out]; rfl, B2.out⟩
        · by_cases hv : vlan < 0
          · cases t
            · go_wp2
              go_ret
              exact ⟨by rw [E.out]; simp [inB, hv], B2.out⟩
            · go_wp2
              go_ret
              exact ⟨by rw [E.out]; simp [inB, hv, beq_dec], B2.out⟩
          · cases t
            · go_wp2
              go_ret
              have hv2 : ¬ vlan < 0 := by omega
              exact ⟨by rw [E.out]; simp [inB, hv2], B2.out⟩
            · go_wp2
              go_ret
              have hv2 : ¬ vlan < 0 := by omega
              exact ⟨by rw [E.out]; simp [inB, hv2, beq_dec], B2.out⟩

end Go.Proofs.Ytipebfaappangaa
