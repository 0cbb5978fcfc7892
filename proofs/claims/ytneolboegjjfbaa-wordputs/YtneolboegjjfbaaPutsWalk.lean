/-
  WordPuts, walked: numbers are laid down and read as the document says, and what is handed out is its owner's.
-/
import Derived.Test.YtneolboegjjfbaaRefPut
import Derived.Test.YtneolboegjjfbaaRefAt
import Derived.Deep.DeepCutAuto
import Derived.Deep.RegionHeld
import Derived.Deep.QuietTactic
import Derived.BigQuiet
namespace Go.Proofs.Ytneolboegjjfbaa
open Go.RowKit

theorem put16_mod (n : Int) : put16 (n % 65536) = put16 n := by simp [put16]; omega

theorem rd16_bd (b : List Int) (at_ : Int) (Bb : Bytes b) : 0 ≤ rd16 b at_ ∧ rd16 b at_ ≤ 65535 := by
  have h0 := Bb.getD at_.toNat
  have h1 := Bb.getD (at_.toNat + 1)
  unfold rd16; split <;> omega
theorem rd32_bd (b : List Int) (at_ : Int) (Bb : Bytes b) : 0 ≤ rd32 b at_ ∧ rd32 b at_ < 4294967296 := by
  have h0 := Bb.getD at_.toNat
  have h1 := Bb.getD (at_.toNat + 1)
  have h2 := Bb.getD (at_.toNat + 2)
  have h3 := Bb.getD (at_.toNat + 3)
  unfold rd32; split <;> omega

set_option maxRecDepth 100000 in
set_option maxHeartbeats 8000000 in
theorem puts_walk (va : Value) (b : List Int) (n m at_ : Int) (w : World) (hb : IsB w.heap.size w va b) (Bb : Bytes b) (lb : b.length ≤ 140737488351232) (_ : -9223372036854775808 ≤ n) (_ : n ≤ 9223372036854775807) (m0 : 0 ≤ m) (m1 : m < 4294967296) (_ : -9223372036854775808 ≤ at_) (at1 : at_ ≤ 9223372036854775807) :
    Calls Try.prog 3 #[va, .int .i64 n, .int .u32 m, .int .i64 at_] w fun e w' => e = .returned (.bool true) ∧ Below w.heap.size w w' := by
  obtain ⟨aa, ca, rfl, hca⟩ := hb.shape
  go_enter Try.func3, Try.ntmps3
  go_wp2_with fail
  refine (awake_any _).mono ?_
  rintro e w1 ⟨rfl, b1⟩
  have z1 := b1.size
  have i1 := hb.later b1
  go_wp2_with (at_builtin; refine wpList_grow rfl (.const (.slice none 0 0)) (.tmp 25) rfl rfl w1.heap.size (.slice none 0 0) _ [] b rfl rfl (Gro.nil _ _) i1 (Nat.le_refl _) (by simp; omega) b (List.nil_append _) ?_)
  intro a2 c2 w2 hc2 g2 b2
  have z2 := b2.size
  replace b1 := later b1 b2
  clear i1 b2 hc2
  -- the four bytes that are put behind them
  obtain ⟨L, eL⟩ : ∃ L, b ++ [7, 7, 7, 7] = L := ⟨_, rfl⟩
  have lL : L.length = b.length + 4 := by rw [← eL]; simp
  have tL : L.take b.length = b := by rw [← eL]; simp
  have s0 : L[b.length]?.getD 0 = 7 := by rw [← eL]; simp
  have s3 : L[b.length + 3]?.getD 0 = 7 := by rw [← eL]; simp
  obtain ⟨wn, hwn⟩ : ∃ wn, w2.alloc (.cells #[.int .u8 7, .int .u8 7, .int .u8 7, .int .u8 7] 5) = wn := ⟨_, rfl⟩
  have bn : Below w2.heap.size w2 wn := by rw [← hwn]; exact later_alloc _ _
  have inw : IsB wn.heap.size wn (.slice (some ⟨w2.heap.size, 0, none⟩) 4 4) [7, 7, 7, 7] := by
    rw [← hwn, World.size_alloc]; exact IsB_new [7, 7, 7, 7] (by omega)
  have gn := g2.later bn
  have zn : w1.heap.size ≤ wn.heap.size := Nat.le_trans z2 bn.size
  have bw := later b1 bn
  have GN := hide gn
  have INW := hide inw
  have HWN := hide hwn
  have EL := hide eL
  have LL := hide lL
  have TL := hide tL
  have S0 := hide s0
  have S3 := hide s3
  clear hwn gn inw bn eL lL tL s0 s3 g2
  rw [← HWN.out] at bw zn GN INW
  go_wp2_with (at_builtin; refine wpList_grow rfl (.tmp 27) (.tmp 28) rfl rfl w1.heap.size _ _ b [7, 7, 7, 7] rfl rfl GN.out INW.out zn (by simp; omega) L EL.out ?_)
  intro a3 c3 w3 hc3 g3 b3
  have lL : L.length = b.length + 4 := LL.out
  obtain ⟨g, rfl, hg, _, _⟩ := g3.block (by omega)
  have bb := bw.trans (b3.mono z1)
  have hLc : b.length ≤ c3 := by omega
  have hLm : L.length ≤ 140737488351236 := by omega
  have BL : Bytes L := by rw [← EL.out]; exact Bb.append (by intro x hx; simp at hx; omega)
  have hg3 : g < w3.heap.size := by
    have h := g3.isB
    obtain ⟨_, _, e, _, _, hc⟩ := h
    obtain ⟨b', off', e', hb', _⟩ := hc (by omega)
    simp only [Value.slice.injEq] at e
    rw [← e.1] at e'
    cases e'
    exact hb'
  have b3w := bb.size
  have G := hide g3
  clear GN INW HWN EL lL zn bw b3 g3 z2 b1 hc3
  have iown : ∀ W, Gro w1.heap.size W (.slice (some ⟨g, 0, none⟩) L.length c3) L → IsB W.heap.size W (.slice (some ⟨g, 0, none⟩) b.length c3) b := fun W hG => by
    have := hG.isB.take b.length (by rw [LL.out]; omega)
    rw [TL.out] at this
    exact this
  have OWN := hide iown
  clear iown
  go_wp2_with fail
  refine (Put16_any _ b n w3 (OWN.out w3 G.out) (by omega)).mono ?_
  rintro e w4 ⟨vx, rfl, ox, b4⟩
  have G4 := hide (G.out.later b4)
  replace bb := later bb b4
  clear b4 G
  go_wp2_with fail
  refine (Put32_any _ b m m0 m1 w4 (OWN.out w4 G4.out) (by omega)).mono ?_
  rintro e w5 ⟨vy, rfl, oy, b5⟩
  have G5 := hide (G4.out.later b5)
  have OX := hide (ox.below b5 (Nat.le_refl _))
  have OY := hide oy
  replace bb := later bb b5
  clear b5 G4 ox oy
  obtain ⟨sX, eX⟩ : ∃ s, strB (b ++ put16 n) = s := ⟨_, rfl⟩
  obtain ⟨sY, eY⟩ : ∃ s, strB (b ++ put32 m) = s := ⟨_, rfl⟩
  have cX : ∀ W, Below w5.heap.size w5 W → (convert 22 9 vx).run Try.prog W = .ok (.string sX) W := fun W hW => by rw [← eX]; exact conv_str (OX.out.isB.later hW)
  have cY : ∀ W, Below w5.heap.size w5 W → (convert 22 9 vy).run Try.prog W = .ok (.string sY) W := fun W hW => by rw [← eY]; exact conv_str (OY.out.isB.later hW)
  have keepS := hide (fun (W : World) (hW : Below w5.heap.size w5 W) => And.intro (cX W hW) (And.intro (cY W hW) hW))
  have i5 := hide ((hb.below bb).mono bb.size)
  have P2 : ∀ W, Below w5.heap.size w5 W → Calls Try.prog 12 #[.slice aa b.length ca, .int .i64 (n % 65536), .int .i64 2] W fun e w' => ∃ v', e = .returned v' ∧ (convert 22 9 v').run Try.prog w' = .ok (.string sX) w' ∧ Below w5.heap.size w5 w' := fun W hW =>
    (rPut2_any _ b (n % 65536) W (i5.out.later hW) lb (by omega) (by omega)).mono fun e w' ⟨v', he, hG, hB⟩ => ⟨v', he, by rw [← eX, ← put16_mod n]; exact conv_str hG.isB, later hW hB⟩
  have P4 : ∀ W, Below w5.heap.size w5 W → Calls Try.prog 12 #[.slice aa b.length ca, .int .i64 m, .int .i64 4] W fun e w' => ∃ v', e = .returned v' ∧ (convert 22 9 v').run Try.prog w' = .ok (.string sY) w' ∧ Below w5.heap.size w5 w' := fun W hW =>
    (rPut4_any _ b m W (i5.out.later hW) lb m0 m1).mono fun e w' ⟨v', he, hG, hB⟩ => ⟨v', he, by rw [← eY]; exact conv_str hG.isB, later hW hB⟩
  have HP2 := hide P2
  have HP4 := hide P4
  clear P2 P4 cX cY eX eY
  go_upto_region 6 with fail
  go_cut [13] (fun v wc => v = .bool true ∧ Below w5.heap.size w5 wc)
  case first =>
    have bd : Below w5.heap.size w5 w5.drew := (Below.refl _ _).drew
    have hwm : IntKind.i64.wrap m = m := i64_wrap m m0 (by omega)
    go_region_held (fun W => (convert 22 9 vx).run Try.prog W = .ok (.string sX) W ∧ (convert 22 9 vy).run Try.prog W = .ok (.string sY) W ∧ Below w5.heap.size w5 W) (exact keepS.out _ (by assumption))
      (first
        | (go_at_call 13; refine (rLow_any _ _).mono ?_; rintro e w' ⟨rfl, rfl⟩)
        | (go_at_call_of 12 (Value.int IntKind.i64 2); refine (HP2.out _ (by assumption)).mono ?_; rintro e w' ⟨v', rfl, hcv, hbv⟩)
        | (go_at_call_of 12 (Value.int IntKind.i64 4); refine (HP4.out _ (by assumption)).mono ?_; rintro e w' ⟨v', rfl, hcv, hbv⟩))
    go_wp2
    go_meet
    case rel => exact ⟨rfl, by assumption⟩
  case rest =>
    obtain ⟨rfl, b6⟩ := hcut
    have G6 := hide (G5.out.later b6)
    have ox := OX.out.below b6 (Nat.le_refl _)
    have gx := ox.gro (by unfold maxLen; simp only [List.length_append, put16_len]; omega)
    obtain ⟨lx, elx⟩ : ∃ lx, lx = (b ++ put16 n).length := ⟨_, rfl⟩
    have llx : lx = b.length + 2 := by rw [elx]; simp [put16_len]
    replace bb := later bb b6
    obtain ⟨hx, ex, hhx, _⟩ := ox
    subst ex
    rw [← elx] at gx ⊢
    have hgl : g < w3.heap.size := hg3
    have hgx : g ≠ hx := by omega
    have hwx : w.heap.size ≤ hx := by have := b3w; omega
    obtain ⟨sB, eB⟩ : ∃ s, strB b = s := ⟨_, rfl⟩
    have kO := fun (W : World) (hW : Gro w1.heap.size W (.slice (some ⟨g, 0, none⟩) L.length c3) L) (k : Nat) => conv_str (W := W.drewN k) ((OWN.out W hW).below (below_drewN (Below.refl _ _) k))
    have kB := fun (W : World) (hW : Below w.heap.size w W) (k : Nat) => conv_str (W := W.drewN k) ((hb.below hW).below (below_drewN (Below.refl _ _) k))
    rw [eB] at kO kB
    have KO := hide kO
    have KB := hide kB
    have q0 := (own_cell G6.out b.length (by rw [LL.out]; omega)).1
    have q3 := (own_cell G6.out (b.length + 3) (by rw [LL.out]; omega)).1
    rw [S0.out] at q0
    rw [S3.out] at q3
    have lL1 : (b.length : Int) + 3 < (L.length : Int) := by rw [LL.out]; omega
    have r1 := KO.out _ G6.out
    have r2 := KB.out _ bb
    have EX := hide elx
    have LLX := hide llx
    have GX := hide gx
    clear kO kB gx elx llx HP2 HP4 keepS i5 OX OY G5 eB b6
    go_wp2
    go_quiet (fail)
    obtain ⟨W7, eW7⟩ : ∃ W, wc.drewN nq = W := ⟨_, rfl⟩
    have b7 : Below wc.heap.size wc W7 := by rw [← eW7]; exact below_drewN (Below.refl _ _) nq
    rw [eW7]
    have G7 := hide (G6.out.later b7)
    have GX7 := hide (GX.out.later b7)
    replace bb := later bb b7
    clear eW7 b7 G6 GX q0 q3 r1 r2
    have lxm : lx ≤ 140737488351234 := by rw [LLX.out]; omega
    go_wp2
    go_loopw [15] (fun vi wr => ∃ (i : Nat) (xs : List Int), vi = .int .i64 i ∧ i ≤ lx ∧ Hid (xs.length = lx) ∧ Hid (Gro w3.heap.size wr (.slice (some ⟨hx, 0, none⟩) lx lx) xs) ∧ Hid (Gro w1.heap.size wr (.slice (some ⟨g, 0, none⟩) L.length c3) L) ∧ Below w.heap.size w wr) (fun vi _ => lx - (intOf vi).toNat)
    case atStart => exact ⟨0, _, rfl, by omega, EX.out.symm, GX7.out, G7.out, bb⟩
    case round =>
      obtain ⟨i, xs, rfl, hi, hxl, hGX, hG, hB⟩ := hrel
      by_cases hil : i < lx
      · obtain ⟨hc, hf⟩ := own_cell hGX.out i (by rw [hxl.out]; exact hil)
        obtain ⟨y, ey⟩ : ∃ y, xs[i]?.getD 0 = y := ⟨_, rfl⟩
        rw [ey] at hc
        clear ey
        go_wp2
        go_roundw
        case rel =>
          exact ⟨i + 1, xs.set i ((y + 1) % 256), by go_num, by omega, by show _ = _; rw [List.length_set]; exact hxl.out, hGX.out.store hxl.out.symm i _, hG.out.other hx i _ hgx, hB.setCell (p := ⟨hx, i, none⟩) hwx _⟩
        case measure => simp [intOf]; omega
      · have r1 := KO.out wr hG.out
        have r2 := KB.out wr hB
        go_wp2
        go_quiet (fail)
        obtain ⟨W8, eW8⟩ : ∃ W, wr.drewN nq = W := ⟨_, rfl⟩
        have b8 : Below wr.heap.size wr W8 := by rw [← eW8]; exact below_drewN (Below.refl _ _) nq
        rw [eW8]
        have bb8 := later hB b8
        clear eW8 b8 r1 r2 hG hGX hxl KO KB G7 GX7 EX LLX OWN LL TL S0 S3
        have hbl : (b.length : Int) ≤ 4611686018427387904 := by omega
        have rb2 := rd16_bd b at_ Bb
        have rb4 := rd32_bd b at_ Bb
        have A2 := At16_any (.slice aa b.length ca) b at_ W8 ((hb.below bb8).mono bb8.size) Bb hbl at1
        have A4 := fun W (hW : Below w.heap.size w W) => At32_any (.slice aa b.length ca) b at_ W ((hb.below hW).mono hW.size) Bb hbl at1
        have R2 := fun W (hW : Below w.heap.size w W) => rAt2_any (.slice aa b.length ca) b at_ W ((hb.below hW).mono hW.size) Bb hbl
        have R4 := fun W (hW : Below w.heap.size w W) => rAt4_any (.slice aa b.length ca) b at_ W ((hb.below hW).mono hW.size) Bb hbl
        obtain ⟨x2, u2, p2, ex2, eu2, ep2⟩ : ∃ x2 u2 p2 : Int, errOf b at_ 2 = x2 ∧ (if stB b.length at_ 2 = true then rd16 b at_ else -1) = u2 ∧ rd16 b at_ = p2 := ⟨_, _, _, rfl, rfl, rfl⟩
        obtain ⟨x4, u4, p4, ex4, eu4, ep4⟩ : ∃ x4 u4 p4 : Int, errOf b at_ 4 = x4 ∧ (if stB b.length at_ 4 = true then rd32 b at_ else -1) = u4 ∧ rd32 b at_ = p4 := ⟨_, _, _, rfl, rfl, rfl⟩
        have f2 : (x2 = 0 ∧ u2 = p2) ∨ (x2 = 3 ∧ u2 = -1 ∧ p2 = 0) := by
          rw [← ex2, ← eu2, ← ep2]
          cases h : stB b.length at_ 2 with
          | true => left; simp [errOf, h]
          | false => right; simp [errOf, rd16, h]
        have f4 : (x4 = 0 ∧ u4 = p4) ∨ (x4 = 3 ∧ u4 = -1 ∧ p4 = 0) := by
          rw [← ex4, ← eu4, ← ep4]
          cases h : stB b.length at_ 4 with
          | true => left; simp [errOf, h]
          | false => right; simp [errOf, rd32, h]
        rw [ex2, ep2] at A2
        simp only [ex4, ep4] at A4
        simp only [eu2] at R2
        simp only [eu4] at R4
        rw [ep2] at rb2
        rw [ep4] at rb4
        have HA2 := hide A2
        have HA4 := hide A4
        have HR2 := hide R2
        have HR4 := hide R4
        have F2 := hide f2
        have F4 := hide f4
        clear A2 A4 R2 R4 ex2 eu2 ep2 ex4 eu4 ep4 f2 f4 hb Bb
        go_wp2_with fail
        refine (unhide HA2).mono ?_
        rintro e W9 ⟨rfl, b9⟩
        have bb9 := later bb8 b9
        clear b9
        go_wp2_with fail
        refine (HA4.out W9 bb9).mono ?_
        rintro e W10 ⟨rfl, b10⟩
        have bb10 := later bb9 b10
        clear b10 bb8 bb9
        go_wp2_with fail
        refine (HR2.out W10 bb10).mono ?_
        rintro e W11 ⟨rfl, e11⟩
        subst e11
        go_wp2_with fail
        refine (HR4.out _ bb10).mono ?_
        rintro e W12 ⟨rfl, e12⟩
        subst e12
        obtain ⟨p20, p21⟩ := rb2
        obtain ⟨p40, p41⟩ := rb4
        have d2 : decide (p2 < 0) = false := by simp; omega
        have d4 : decide (p4 < 0) = false := by simp; omega
        clear HA2 HA4 HR2 HR4
        rcases F2.out with ⟨rfl, rfl⟩ | ⟨rfl, rfl, rfl⟩
        · rcases F4.out with ⟨rfl, rfl⟩ | ⟨rfl, rfl, rfl⟩
          · go_wp2
            go_ret
            exact ⟨rfl, bb10⟩
          · go_wp2
            go_ret
            exact ⟨rfl, bb10⟩
        · rcases F4.out with ⟨rfl, rfl⟩ | ⟨rfl, rfl, rfl⟩
          · go_wp2
            go_ret
            exact ⟨rfl, bb10⟩
          · go_wp2
            go_ret
            exact ⟨rfl, bb10⟩

end Go.Proofs.Ytneolboegjjfbaa
