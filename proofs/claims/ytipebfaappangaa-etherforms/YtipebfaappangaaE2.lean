
/-
  Package ether: the contract of Mine.
-/
import Derived.Test.YtipebfaappangaaE1
namespace Go.Proofs.Ytipebfaappangaa
open Go.RowKit

/-- is the frame for this address, in this VLAN? -/
def miB (f : Fr) (own : M6) (vlan : Int) : Bool := (eqM f.dst own || eqM f.dst mAll) && (!eqM f.src own && !decide (f.src.a % 2 = 1)) && inB f vlan

set_option maxHeartbeats 4000000 in
theorem Mine_any (f : Fr) (own : M6) (vlan : Int) (w : World) (h0 : 0 ≤ f.src.a) (h1 : f.src.a ≤ 255) : Calls Try.prog 13 #[f.val, own.val, .int .i64 vlan] w fun e w' => e = .returned (.bool (miB f own vlan)) ∧ Below w.heap.size w w' := by
  have B2 := hide (later (later_alloc w (.cells f.cells 25)) (later_alloc _ (.cells own.cells 23)))
  have F2 := hide ((FrAt.new w f 25).al (.cells own.cells 23))
  have M2 := hide (MaAt.new (w.alloc (.cells f.cells 25)) own 23)
  rw [World.size_alloc] at M2
  have IM := fun W => isOfMany_any f.src W h0 h1
  have II := fun W => isIn_any f vlan W
  have HIM := hide IM
  have HII := hide II
  clear IM II h0 h1
  obtain ⟨m, hm⟩ : ∃ m, miB f own vlan = m := ⟨_, rfl⟩
  rw [hm]
  have HM := hide hm
  clear hm
  obtain ⟨I, hI⟩ : ∃ I, inB f vlan = I := ⟨_, rfl⟩
  rw [hI] at HII
  have HI := hide hI
  clear hI
  obtain ⟨⟨d0, d1, d2, d3, d4, d5⟩, ⟨s0, s1, s2, s3, s4, s5⟩, t, v, p, y⟩ := f
  obtain ⟨o0, o1, o2, o3, o4, o5⟩ := own
  simp only [Fr.val, Fr.cells, M6.val, M6.cells] at HIM HII B2 F2 M2 ⊢
  have EM := eq_mac
  obtain ⟨T, hT⟩ : ∃ T, (eqM ⟨d0, d1, d2, d3, d4, d5⟩ ⟨o0, o1, o2, o3, o4, o5⟩ || eqM ⟨d0, d1, d2, d3, d4, d5⟩ mAll) = T := ⟨_, rfl⟩
  have HT := hide hT
  clear hT
  go_enter Try.func13, Try.ntmps13
  go_upto_region 2 with fail
  obtain ⟨W2, e2⟩ : ∃ W2, (w.alloc (.cells #[.int .u8 d0, .int .u8 d1, .int .u8 d2, .int .u8 d3, .int .u8 d4, .int .u8 d5, .int .u8 s0, .int .u8 s1, .int .u8 s2, .int .u8 s3, .int .u8 s4, .int .u8 s5, .bool t, .int .i64 v, .int .i64 p, .int .i64 y] 25)).alloc (.cells #[.int .u8 o0, .int .u8 o1, .int .u8 o2, .int .u8 o3, .int .u8 o4, .int .u8 o5] 23) = W2 := ⟨_, rfl⟩
  rw [e2] at B2 F2 M2 ⊢
  clear e2
  go_cut [7] (fun v7 wc => v7 = .bool T ∧ Hid (Below W2.heap.size W2 wc))
  case first =>
    obtain ⟨f0, f1, f2, f3, f4, f5, -, -, -, -, -, -, -, -, -, -, -⟩ := F2.out
    obtain ⟨g0, g1, g2, g3, g4, g5, -⟩ := M2.out
    cases hd : eqM ⟨d0, d1, d2, d3, d4, d5⟩ ⟨o0, o1, o2, o3, o4, o5⟩
    · go_region_with (go_at_call 15; refine (All_any _).mono ?_; rintro e w' ⟨rfl, bA⟩; simp only [M6.val, M6.cells, mAll]; obtain ⟨a0, a1, a2, a3, a4, a5, -, -, -, -, -, -, -, -, -, -, -⟩ := F2.out.later (undrew bA))
      all_goals go_wp2
      all_goals go_meet
      all_goals exact ⟨by rw [← HT.out, hd]; rfl, undrew bA⟩
    · go_quiet (fail)
      go_wp2
      go_meet
      case rel => exact ⟨by rw [← HT.out, hd]; rfl, later_drewN _ _⟩
  case rest =>
    obtain ⟨rfl, b1⟩ := hcut
    obtain ⟨f0, f1, f2, f3, f4, f5, f6, f7, f8, f9, f10, f11, f12, f13, f14, f15, -⟩ := F2.out.later b1.out
    obtain ⟨g0, g1, g2, g3, g4, g5, -⟩ := M2.out.later b1.out
    have B3 := hide (later B2.out b1.out)
    clear F2 M2 B2 b1
    cases hs : eqM ⟨s0, s1, s2, s3, s4, s5⟩ ⟨o0, o1, o2, o3, o4, o5⟩
    · go_wp2_with fail
      refine (HIM.out _).mono ?_
      rintro e w3 ⟨rfl, b3⟩
      have B4 := hide (later B3.out b3)
      have Hc : ∀ k u, wc.cell? ⟨w.heap.size, k, none⟩ = some u → w3.cell? ⟨w.heap.size, k, none⟩ = some u := fun k u h => (b3.cell (p := ⟨w.heap.size, k, none⟩) (World.block_lt_of_cell? _ _ h)).trans h
      replace f0 := Hc _ _ f0
      replace f1 := Hc _ _ f1
      replace f2 := Hc _ _ f2
      replace f3 := Hc _ _ f3
      replace f4 := Hc _ _ f4
      replace f5 := Hc _ _ f5
      replace f6 := Hc _ _ f6
      replace f7 := Hc _ _ f7
      replace f8 := Hc _ _ f8
      replace f9 := Hc _ _ f9
      replace f10 := Hc _ _ f10
      replace f11 := Hc _ _ f11
      replace f12 := Hc _ _ f12
      replace f13 := Hc _ _ f13
      replace f14 := Hc _ _ f14
      replace f15 := Hc _ _ f15
      clear Hc b3 B3 g0 g1 g2 g3 g4 g5
      cases T
      · go_wp2
        go_ret
        exact ⟨by rw [← HM.out]; simp [miB, HT.out], B4.out⟩
      · cases ho : decide (s0 % 2 = 1)
        · go_wp2_with fail
          refine (HII.out _).mono ?_
          rintro e w5 ⟨rfl, b5⟩
          go_wp2
          go_ret
          exact ⟨by rw [← HM.out]; simp only [miB, HT.out, HI.out, hs, ho]; rfl, later B4.out b5⟩
        · go_wp2
          go_ret
          exact ⟨by rw [← HM.out]; simp only [miB, HT.out, HI.out, hs, ho]; rfl, B4.out⟩
    · cases T
      · go_wp2
        go_ret
        exact ⟨by rw [← HM.out]; simp [miB, hs], B3.out⟩
      · go_wp2
        go_ret
        exact ⟨by rw [← HM.out]; simp [miB, hs], B3.out⟩

end Go.Proofs.Ytipebfaappangaa
