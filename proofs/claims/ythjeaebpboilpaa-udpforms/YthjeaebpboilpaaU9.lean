
/-
  UdpForms: the walk.
-/
import Derived.Test.YthjeaebpboilpaaU8
namespace Go.Proofs.Ythjeaebpboilpaa
open Go.RowKit Go.Shelf

theorem udD_len (x y : I4) (bs : List Int) : (udD x y bs).length ≤ bs.length := by
  unfold udD
  split
  · rw [List.length_drop, List.length_take]; omega
  · simp
theorem ueB_len (x y : I4) (f t : Int) (b : List Int) : (ueB x y f t b).length ≤ 1024 := by
  unfold ueB
  split
  · rename_i h
    rw [udB_len]
    have := (ueE_zero h).2.2
    omega
  · simp
set_option maxRecDepth 100000 in
set_option maxHeartbeats 16000000 in
theorem uForms_walk (x y : I4) (f t : Int) (bv : Value) (b : List Int) (rv : Value) (r : List Int) (w : World) (hx : x.Ok) (hy : y.Ok) (_ : -9223372036854775808 ≤ f) (_ : f ≤ 9223372036854775807) (_ : -9223372036854775808 ≤ t) (_ : t ≤ 9223372036854775807) (hb : IsB w.heap.size w bv b) (hB : Bytes b) (lb : b.length ≤ 140737488351232) (hr : IsB w.heap.size w rv r) (hR : Bytes r) (lr : r.length ≤ 140737488351232) :
    Calls Try.prog 3 #[x.val, y.val, .int .i64 f, .int .i64 t, bv, rv] w fun e w' => e = .returned (.bool true) ∧ Below w.heap.size w w' := by
  obtain ⟨w1, w2, s1, s2, hs1, hw1, hs2, hw2, c1, c2, b2, l1, l2, _⟩ := twoI w x y
  obtain ⟨ba, bc, rfl, _⟩ := hb.shape
  obtain ⟨ra, rc, rfl, _⟩ := hr.shape
  obtain ⟨X, hX⟩ : ∃ X, X = x.vals := ⟨_, rfl⟩
  obtain ⟨Y, hY⟩ : ∃ Y, Y = y.vals := ⟨_, rfl⟩
  have LX : Hid (X.length = 4) := by rw [hX]; exact rfl
  have LY : Hid (Y.length = 4) := by rw [hY]; exact rfl
  rw [← hX] at c1
  rw [← hY] at c2
  have XV : Hid (x.val = .agg X.toArray ∧ y.val = .agg Y.toArray) := by rw [hX, hY]; exact ⟨rfl, rfl⟩
  have XO := hide hx
  have YO := hide hy
  have BB := hide hB
  have RB := hide hR
  have B2 := hide b2
  have HB0 := hide hb
  have HR0 := hide hr
  have U2 : Hid (Up w2 (fun W => CellsAt W s1 0 X ∧ CellsAt W s2 0 Y)) := (c1.up l1).and (c2.up l2)
  obtain ⟨bn, hbn⟩ : ∃ bn, bn = b.length := ⟨_, rfl⟩
  obtain ⟨rn, hrn⟩ : ∃ rn, rn = r.length := ⟨_, rfl⟩
  have HBN := hide hbn
  have HRN := hide hrn
  rw [← hbn] at HB0 lb ⊢
  rw [← hrn] at HR0 lr ⊢
  rw [show x.val = .agg #[.int .u8 x.a, .int .u8 x.b, .int .u8 x.c, .int .u8 x.d] from rfl, show y.val = .agg #[.int .u8 y.a, .int .u8 y.b, .int .u8 y.c, .int .u8 y.d] from rfl]
  have hs1' := hs1.symm
  have hs2' := hs2.symm
  have hw1' := hw1.symm
  have hw2' := hw2.symm
  clear c1 c2 b2 hs1 hs2 hw1 hw2 hX hY hb hr hB hR hbn hrn hx hy
  go_enter Try.func3, Try.ntmps3
  go_wp2_with fail
  clear hs1' hs2' hw1' hw2'
  refine (uAwake_any w2).mono ?_
  rintro _ w3 ⟨rfl, b3⟩
  have B3 := hide (later B2.out b3)
  have U3 := hide (U2.out.next b3)
  clear b3 U2
  -- own
  have IB3 := hide (HB0.out.later B3.out)
  have LD3 : Hid (([] : List Int).length + b.length ≤ 140737488355328) := by unfold Hid; rw [← HBN.out]; simp; omega
  have EL3 : Hid (([] : List Int) ++ b = b) := rfl
  have GN3 : Hid (Gro w3.heap.size w3 (.slice none 0 0) []) := Gro.nil _ _
  have NN3 : Hid (w3.heap.size ≤ w3.heap.size) := Nat.le_refl _
  go_upto_region 2 with fail
  go_wp2_with (at_builtin; refine wpList_growB rfl (.const (.slice none 0 0)) (.tmp 32) rfl rfl w3.heap.size (.slice none 0 0) _ [] b rfl rfl GN3.out IB3.out NN3.out LD3.out b EL3.out ?_)
  intro oa oc w4 _ g4 b4
  rw [← HBN.out] at g4 ⊢
  have B4 := hide (later B3.out b4)
  have U4 := hide ((U3.out.next b4).and g4.up)
  have OWN : Hid (∀ g x y, (.slice oa bn oc : Value) = .slice (some ⟨g, 0, none⟩) x y → w3.heap.size ≤ g ∧ g < w4.heap.size) := fun g x y e => g4.lies g x y e
  have EN := uEnc_any x y XO.out YO.out f t oa oc b w4 (by have h := g4.isB; rw [HBN.out] at h; exact h) BB.out (by rw [← HBN.out]; omega)
  rw [← HBN.out, XV.out.1, XV.out.2] at EN
  obtain ⟨E, hE⟩ : ∃ E, E = ueE f t bn := ⟨_, rfl⟩
  obtain ⟨L, hL⟩ : ∃ L, L = ueB x y f t b := ⟨_, rfl⟩
  rw [← hE, ← hL] at EN
  have HEN := hide EN
  have HE := hide hE
  have HL := hide hL
  have LL : Hid (L.length ≤ 1024) := by rw [hL]; exact ueB_len _ _ _ _ _
  have C1 := hide U4.out.now.1.1
  have C2 := hide U4.out.now.1.2
  have Z34 : Hid (w3.heap.size ≤ w4.heap.size) := b4.size
  clear g4 b4 EN hE hL U3 IB3 LD3 EL3 GN3 NN3
  go_upto_region 3 with fail
  go_wp2_with (first | refine wpList_loadA rfl 23 4 aggI sizI _ rfl s1 0 rfl X LX.out C1.out ?_ | refine wpList_loadA rfl 23 4 aggI sizI _ rfl s2 0 rfl Y LY.out C2.out ?_)
  refine HEN.out.mono ?_
  rintro _ w5 ⟨xv, rfl, g5, b5⟩
  obtain ⟨xa, xc, rfl, _⟩ := g5.isB.shape
  obtain ⟨xn, hxn⟩ : ∃ xn, xn = L.length := ⟨_, rfl⟩
  rw [← hxn] at g5 ⊢
  have HXN := hide hxn
  have B5 := hide (later B4.out b5)
  have U5 := hide ((U4.out.next b5).and g5.up)
  have XLI : Hid (∀ g x y, (.slice xa xn xc : Value) = .slice (some ⟨g, 0, none⟩) x y → w4.heap.size ≤ g ∧ g < w5.heap.size) := fun g x y e => g5.lies g x y e
  have RE := rEnc_any x y XO.out YO.out f t ba bc b w5 (by have h := HB0.out.later B5.out; rw [HBN.out] at h; exact h) BB.out (by rw [← HBN.out]; omega)
  rw [← HBN.out, ← HE.out, ← HL.out, XV.out.1, XV.out.2] at RE
  have HRE := hide RE
  have C1 := hide U5.out.now.1.1.1
  have C2 := hide U5.out.now.1.1.2
  have Z45 : Hid (w4.heap.size ≤ w5.heap.size) := b5.size
  clear HEN b5 g5 hxn U4 RE
  go_upto_region 4 with fail
  go_wp2_with (first | refine wpList_loadA rfl 23 4 aggI sizI _ rfl s1 0 rfl X LX.out C1.out ?_ | refine wpList_loadA rfl 23 4 aggI sizI _ rfl s2 0 rfl Y LY.out C2.out ?_)
  refine HRE.out.mono ?_
  rintro _ w6 ⟨yv, rfl, g6, b6⟩
  obtain ⟨ya, yc, rfl, _⟩ := g6.isB.shape
  rw [← HXN.out] at g6 ⊢
  have B6 := hide (later B5.out b6)
  have U6 := hide ((U5.out.next b6).and g6.isB.up)
  have Z56 : Hid (w5.heap.size ≤ w6.heap.size) := b6.size
  have IR6 := hide (HR0.out.later B6.out)
  have LD6 : Hid (([] : List Int).length + r.length ≤ 140737488355328) := by unfold Hid; rw [← HRN.out]; simp; omega
  have EL6 : Hid (([] : List Int) ++ r = r) := rfl
  have GN6 : Hid (Gro w6.heap.size w6 (.slice none 0 0) []) := Gro.nil _ _
  have NN6 : Hid (w6.heap.size ≤ w6.heap.size) := Nat.le_refl _
  clear HRE b6 g6 U5
  go_upto_region 5 with fail
  go_wp2_with (at_builtin; refine wpList_growB rfl (.const (.slice none 0 0)) (.tmp 52) rfl rfl w6.heap.size (.slice none 0 0) _ [] r rfl rfl GN6.out IR6.out NN6.out LD6.out r EL6.out ?_)
  intro ka kc w7 _ g7 b7
  rw [← HRN.out] at g7 ⊢
  have B7 := hide (later B6.out b7)
  have U7 := hide ((U6.out.next b7).and g7.up)
  have KLI : Hid (∀ g x y, (.slice ka rn kc : Value) = .slice (some ⟨g, 0, none⟩) x y → w6.heap.size ≤ g ∧ g < w7.heap.size) := fun g x y e => g7.lies g x y e
  have DE := uDec_any x y XO.out YO.out (.slice ka rn kc) r w7 g7.isB RB.out (by rw [← HRN.out]; omega)
  rw [XV.out.1, XV.out.2] at DE
  obtain ⟨dF, hdF⟩ : ∃ dF, dF = udF x y r := ⟨_, rfl⟩
  obtain ⟨dT, hdT⟩ : ∃ dT, dT = udT x y r := ⟨_, rfl⟩
  obtain ⟨dE, hdE⟩ : ∃ dE, dE = udE x y r := ⟨_, rfl⟩
  obtain ⟨D, hD⟩ : ∃ D, D = udD x y r := ⟨_, rfl⟩
  rw [← hdF, ← hdT, ← hdE, ← hD] at DE
  have HDE := hide DE
  have HF := hide hdF
  have HT := hide hdT
  have HdE := hide hdE
  have HD := hide hD
  have DL : Hid (D.length ≤ rn) := by rw [hD, HRN.out]; exact udD_len _ _ _
  have C1 := hide U7.out.now.1.1.1.1.1
  have C2 := hide U7.out.now.1.1.1.1.2
  have Z67 : Hid (w6.heap.size ≤ w7.heap.size) := b7.size
  clear g7 b7 DE hdF hdT hdE hD U6 IR6 LD6 EL6 GN6 NN6
  go_upto_region 6 with fail
  go_wp2_with (first | refine wpList_loadA rfl 23 4 aggI sizI _ rfl s1 0 rfl X LX.out C1.out ?_ | refine wpList_loadA rfl 23 4 aggI sizI _ rfl s2 0 rfl Y LY.out C2.out ?_)
  refine HDE.out.mono ?_
  rintro _ w8 ⟨cv, rfl, g8, b8⟩
  obtain ⟨ca, cc, rfl, _⟩ := g8.isB.shape
  obtain ⟨cn, hcn⟩ : ∃ cn, cn = D.length := ⟨_, rfl⟩
  rw [← hcn] at g8 ⊢
  have HCN := hide hcn
  have B8 := hide (later B7.out b8)
  have U8 := hide ((U7.out.next b8).and g8.up)
  have CLI : Hid (∀ g x y, (.slice ca cn cc : Value) = .slice (some ⟨g, 0, none⟩) x y → w7.heap.size ≤ g ∧ g < w8.heap.size) := fun g x y e => g8.lies g x y e
  have RD := rDec_any x y XO.out YO.out (.slice ra rn rc) r w8 (HR0.out.later B8.out) RB.out (by rw [← HRN.out]; omega)
  rw [← HF.out, ← HT.out, ← HdE.out, ← HD.out, XV.out.1, XV.out.2] at RD
  have HRD := hide RD
  have C1 := hide U8.out.now.1.1.1.1.1.1
  have C2 := hide U8.out.now.1.1.1.1.1.2
  clear HDE b8 g8 hcn U7 RD
  go_upto_region 7 with fail
  go_wp2_with (first | refine wpList_loadA rfl 23 4 aggI sizI _ rfl s1 0 rfl X LX.out C1.out ?_ | refine wpList_loadA rfl 23 4 aggI sizI _ rfl s2 0 rfl Y LY.out C2.out ?_)
  refine HRD.out.mono ?_
  rintro _ w9 ⟨dv, rfl, i9, b9⟩
  obtain ⟨da, dc, rfl, _⟩ := i9.shape
  have B9 := hide (later B8.out b9)
  have U9 := hide (U8.out.next b9)
  have t1 := conv_str U9.out.now.1.1.1.2.isB
  have t2 := conv_str U9.out.now.1.1.2
  have t3 := conv_str U9.out.now.2.isB
  have t4 := conv_str i9
  rw [← HCN.out] at t4 ⊢
  obtain ⟨S1, hS1⟩ : ∃ S1, S1 = strB L := ⟨_, rfl⟩
  obtain ⟨S2, hS2⟩ : ∃ S2, S2 = strB D := ⟨_, rfl⟩
  rw [← hS1] at t1 t2
  rw [← hS2] at t3 t4
  clear hS1 hS2 HRD b9 i9 U8 C1 C2
  go_upto_region 9 with fail
  clear t1 t2 t3 t4
  have cz : (cn : Int) ≤ 140737488351232 := by have := HCN.out; have := DL.out; omega
  have xz : (xn : Int) ≤ 1024 := by have := HXN.out; have := LL.out; omega
  have B4z : Hid (w.heap.size ≤ w4.heap.size) := B4.out.size
  have B7z : Hid (w.heap.size ≤ w7.heap.size) := B7.out.size
  go_wp2
  go_loopw [29] (fun vi wr => ∃ (k : Nat) (Z : List Int), vi = .int .i64 (k : Int) ∧ k ≤ cn ∧ Hid (Z.length = cn) ∧ Hid (Gro w7.heap.size wr (.slice ca cn cc) Z) ∧ Hid (But (fun g => w7.heap.size ≤ g ∧ g < w8.heap.size) w9 wr)) (fun vi _ => cn - (intOf vi).toNat)
  case atStart => exact ⟨0, D, rfl, Nat.zero_le _, HCN.out.symm, U9.out.now.2, But.refl _ _⟩
  case round =>
    obtain ⟨k, Z, rfl, hk, hZ, GZ, Bt⟩ := hrel
    by_cases hlt : k < cn
    · obtain ⟨qq, rfl, hq, hc, hf⟩ := GZ.out.block (by rw [hZ.out]; omega)
      have c9 := hc k (by rw [hZ.out]; exact hlt)
      have f9 := hf k
      have HQQ := hide (CLI.out qq _ _ rfl)
      obtain ⟨z, ez⟩ : ∃ z, Z[k]?.getD 0 = z := ⟨_, rfl⟩
      rw [ez] at c9
      have kz : (k : Int) < (cn : Int) := by omega
      clear ez hc hf hq hk
      go_wp2
      go_roundw
      case rel => exact ⟨k + 1, Z.set k ((z + 1) % 256), by go_num, by omega, by show _ = _; rw [List.length_set]; exact hZ.out, GZ.out.store hZ.out.symm k _, Bt.out.setCell (p := ⟨qq, k, none⟩) (.inr HQQ.out) _⟩
      case measure => simp [intOf]; omega
    · obtain ⟨wz, hwz⟩ : ∃ wz, wz = wr := ⟨_, rfl⟩
      rw [← hwz] at Bt ⊢
      have zz3 := Z34.out
      have zz4 := Z45.out
      have zz5 := Z56.out
      have zz6 := Z67.out
      have GX := hide (U9.out.now.1.1.1.2.away Bt.out (fun g x y e k => by have := (XLI.out g x y e).2; have := k.1; omega))
      have GO := hide (U9.out.now.1.1.1.1.2.away Bt.out (fun g x y e k => by have := (OWN.out g x y e).2; have := k.1; omega))
      have GK := hide (U9.out.now.1.2.away Bt.out (fun g x y e k => by have := (KLI.out g x y e).2; have := k.1; omega))
      have BZ := hide (B9.out.trans (Bt.out.below B9.out.size (fun g hg e => by have := e.1; have := B7z.out; omega)))
      have kz : ¬ (k : Int) < (cn : Int) := by omega
      clear GZ Bt hZ hlt hk hwz U9
      go_wp2
      go_loopw [30] (fun vi wq => ∃ (j : Nat) (T : List Int), vi = .int .i64 (j : Int) ∧ j ≤ xn ∧ Hid (T.length = xn) ∧ Hid (Gro w4.heap.size wq (.slice xa xn xc) T) ∧ Hid (But (fun g => w4.heap.size ≤ g ∧ g < w5.heap.size) wz wq)) (fun vi _ => xn - (intOf vi).toNat)
      case atStart => exact ⟨0, L, rfl, Nat.zero_le _, HXN.out.symm, GX.out, But.refl _ _⟩
      case round =>
        obtain ⟨j, T, rfl, hj, hT, GT, Bt⟩ := hrel
        by_cases hjl : j < xn
        · obtain ⟨qq, rfl, hq, hc, hf⟩ := GT.out.block (by rw [hT.out]; omega)
          have c9 := hc j (by rw [hT.out]; exact hjl)
          have f9 := hf j
          have HQQ := hide (XLI.out qq _ _ rfl)
          obtain ⟨z, ez⟩ : ∃ z, T[j]?.getD 0 = z := ⟨_, rfl⟩
          rw [ez] at c9
          have jz : (j : Int) < (xn : Int) := by omega
          clear ez hc hf hq hj
          go_wp2
          go_roundw
          case rel => exact ⟨j + 1, T.set j ((z + 1) % 256), by go_num, by omega, by show _ = _; rw [List.length_set]; exact hT.out, GT.out.store hT.out.symm j _, Bt.out.setCell (p := ⟨qq, j, none⟩) (.inr HQQ.out) _⟩
          case measure => simp [intOf]; omega
        · have BE : Below w.heap.size w wr := BZ.out.trans (Bt.out.below BZ.out.size (fun g hg e => by have := e.1; have := B4z.out; omega))
          have t1 := conv_str (GO.out.away Bt.out (fun g x y e k => by have := (OWN.out g x y e).2; have := k.1; omega)).isB
          have t2 := conv_str (HB0.out.later BE)
          have t3 := conv_str (GK.out.away Bt.out (fun g x y e k => by have := (KLI.out g x y e).1; have := k.2; omega)).isB
          have t4 := conv_str (HR0.out.later BE)
          obtain ⟨S3, hS3⟩ : ∃ S3, S3 = strB b := ⟨_, rfl⟩
          obtain ⟨S4, hS4⟩ : ∃ S4, S4 = strB r := ⟨_, rfl⟩
          rw [← hS3] at t1 t2
          rw [← hS4] at t3 t4
          have HF2 := hide BE
          have jz : ¬ (j : Int) < (xn : Int) := by omega
          clear BE hS3 hS4 GT Bt hj hjl hT
          go_wp2
          go_ret
          exact ⟨rfl, HF2.out⟩
end Go.Proofs.Ythjeaebpboilpaa
