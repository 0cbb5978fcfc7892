
/-
  EtherForms, walked.
-/
import Derived.Test.YtipebfaappangaaE19
import Derived.Test.YtipebfaappangaaE21
namespace Go.Proofs.Ytipebfaappangaa
open Go.RowKit

/-- where the bytes lie -/
theorem Gro.block {B : Nat} {W : World} {a : Option Addr} {n c : Nat} {bs : List Int} (h : Gro B W (.slice a n c) bs) (h0 : 0 < bs.length) :
    ∃ g, a = some ⟨g, 0, none⟩ ∧ B ≤ g ∧ g < W.heap.size ∧ (∀ j, j < bs.length → W.cell? ⟨g, j, none⟩ = some (.int .u8 (bs[j]?.getD 0))) ∧ ∀ j, W.frozen? ⟨g, j, none⟩ = false := by
  have h' := h
  obtain ⟨_, ⟨e, h1⟩ | ⟨g, cap, cur, e, hg, hh, _⟩⟩ := h
  · omega
  · simp only [Value.slice.injEq] at e
    obtain ⟨rfl, rfl, rfl⟩ := e
    refine ⟨g, rfl, hg, (Array.getElem?_eq_some_iff.1 hh).1, fun j hj => ?_, fun j => World.ownsRow.frozenAt h' j⟩
    rw [World.ownsRow.cellAt h' j (by omega)]
    simp [hj]
/-- a store into one of them -/
theorem Gro.store {B : Nat} {W : World} {g n c : Nat} {bs : List Int} (h : Gro B W (.slice (some ⟨g, 0, none⟩) n c) bs) (hn : n = bs.length) (k : Nat) (x : Int) :
    Gro B (W.setCell ⟨g, k, none⟩ (.int .u8 x)) (.slice (some ⟨g, 0, none⟩) n c) (bs.set k x) := by
  subst hn
  have := (World.ownsRow.stored h k (.int .u8 x)).1
  unfold Gro
  rw [List.length_set, List.map_set]
  exact this

theorem Gro.lies {B : Nat} {W : World} {a : Option Addr} {n c : Nat} {bs : List Int} (h : Gro B W (.slice a n c) bs) (q : Nat) (e : a = some ⟨q, 0, none⟩) : B ≤ q ∧ q < W.heap.size := by
  obtain ⟨_, ⟨e1, _⟩ | ⟨g, cap, cur, e1, hg, hh, _⟩⟩ := h
  · simp only [Value.slice.injEq] at e1
    rw [e1.1] at e
    cases e
  · simp only [Value.slice.injEq] at e1
    rw [e1.1] at e
    cases e
    exact ⟨hg, (Array.getElem?_eq_some_iff.1 hh).1⟩
theorem Gro.kept {B : Nat} {K : Nat → Prop} {A W : World} {a : Option Addr} {n c : Nat} {bs : List Int} (h : Gro B A (.slice a n c) bs) (hb : But K A W) (hk : ∀ q, a = some ⟨q, 0, none⟩ → ¬ K q) : Gro B W (.slice a n c) bs := by
  obtain ⟨h1, h2 | ⟨g, cap, cur, e1, hg, hh, r⟩⟩ := h
  · exact ⟨h1, .inl h2⟩
  · simp only [Value.slice.injEq] at e1
    exact ⟨h1, .inr ⟨g, cap, cur, by simp [e1], hg, by rw [hb.block g (Array.getElem?_eq_some_iff.1 hh).1 (hk g e1.1)]; exact hh, r⟩⟩

set_option maxRecDepth 100000 in
set_option maxHeartbeats 8000000 in
theorem forms_walk (f : Fr) (v : Value) (bs : List Int) (rv : Value) (raw : List Int) (w : World) (hv : IsF (fun _ => False) w v bs) (hl : bs.length ≤ 140737488351232)
    (hr : IsF (fun _ => False) w rv raw) (hR : Bytes raw) (hlr : raw.length ≤ 140737488351232) :
    Calls Try.prog 3 #[f.val, v, rv] w fun e w' => e = .returned (.bool true) ∧ Below w.heap.size w w' := by
  obtain ⟨a, cap, rfl, hcap, -⟩ := hv.shape
  obtain ⟨ra, rcap, rfl, hrcap, -⟩ := hr.shape
  have B2 := hide (later_alloc w (.cells f.cells 25))
  have F2 := hide (FrAt.new w f 25)
  have HV := hide hv
  have HR := hide hr
  have HRB := hide hR
  obtain ⟨n, hn⟩ : ∃ n, n = bs.length := ⟨_, rfl⟩
  obtain ⟨rn, hrn⟩ : ∃ n, n = raw.length := ⟨_, rfl⟩
  rw [← hn] at HV hl ⊢
  rw [← hrn] at HR hlr ⊢
  have HN := hide hn
  have HRN := hide hrn
  simp only [Fr.val]
  clear hv hr hR hcap hrcap hn hrn
  go_enter Try.func3, Try.ntmps3
  go_wp2_with fail
  refine (awake_any _).mono ?_
  rintro e w3 ⟨rfl, b3⟩
  have F3 := hide (F2.out.later b3)
  have B3 := hide (later B2.out b3)
  clear F2 B2 b3
  have HL := hide hl
  have HLR := hide hlr
  have z03 := B3.out.size
  clear hl hlr
  go_upto_region 3 with (at_builtin; refine wpList_grow rfl _ _ rfl rfl w3.heap.size (fun _ => False) _ _ [] bs rfl rfl (Gro.nil _ _) (HV.out.later B3.out) (Nat.le_refl _) (by have := HN.out; have := HL.out; simp; omega) bs (List.nil_append _) ?_)
  intro ao co w4 hco go4 b4
  have F4 := hide (F3.out.later b4)
  have B4 := hide (later B3.out b4)
  have O4 := hide ((go4.isF (A := fun _ => False) (fun _ _ => id)).avoid (A' := fun g => w4.heap.size ≤ g) (fun g h e => by omega))
  have OE := hide (go4.isF (A := fun _ => False) (fun _ _ => id))
  have z34 := b4.size
  rw [← HN.out] at O4 OE ⊢
  clear F3 B3 b4 hco go4
  have CE := hide (Encode_any (f := f) OE.out)
  go_wp2_with (refine wpList_load_fr rfl _ rfl w.heap.size rfl f F4.out ?_)
  refine CE.out.mono ?_
  rintro e w5 ⟨ax, cx, rfl, gx, b5⟩
  have F5 := hide (F4.out.later b5)
  have B5 := hide (later B4.out b5)
  have z45 := b5.size
  have O5 := hide (O4.out.later b5)
  have V5 := hide (HV.out.later B5.out)
  clear F4 B4 CE O4 OE
  obtain ⟨X, hX⟩ : ∃ X, enB f bs = X := ⟨_, rfl⟩
  obtain ⟨eE, hE⟩ : ∃ e, enE f bs.length = e := ⟨_, rfl⟩
  rw [hX] at gx
  rw [hX, hE]
  have GX5 := hide gx
  have CR := hide (rEncode_any (f := f) V5.out)
  clear gx b5
  go_wp2_with (refine wpList_load_fr rfl _ rfl w.heap.size rfl f F5.out ?_)
  refine CR.out.mono ?_
  rintro e w6 ⟨ay, cy, rfl, gy, b6⟩
  rw [hX] at gy
  rw [hX, hE]
  have z56 := b6.size
  have O6 := hide (O5.out.later b6)
  have GX6 := hide (GX5.out.later b6)
  have Y6 := hide (gy.isF (A := fun _ => False) (fun _ _ => id))
  have B6 := hide (later B5.out b6)
  clear F5 B5 O5 V5 gy b6 CR hX hE
  go_upto_region 6 with (at_builtin; refine wpList_grow rfl _ _ rfl rfl w6.heap.size (fun _ => False) _ _ [] raw rfl rfl (Gro.nil _ _) (HR.out.later B6.out) (Nat.le_refl _) (by have := HRN.out; have := HLR.out; simp; omega) raw (List.nil_append _) ?_)
  intro ak ck w7 hck gk b7
  have z67 := b7.size
  have O7 := hide (O6.out.later b7)
  have GX7 := hide (GX6.out.later b7)
  have Y7 := hide (Y6.out.later b7)
  have B7 := hide (later B6.out b7)
  have K7 := hide ((gk.isF (A := fun g => w4.heap.size ≤ g ∧ g < w5.heap.size) (fun g h e => by omega)).avoid (A' := fun g => (w4.heap.size ≤ g ∧ g < w5.heap.size) ∨ w7.heap.size ≤ g) (fun g h e => by rcases e with e | e; exact e; omega))
  have KE := hide (gk.isF (A := fun _ => False) (fun _ _ => id))
  rw [← HRN.out] at K7 KE ⊢
  have CD := hide (Decode_any KE.out HRB.out (by rw [← HRN.out]; have := HLR.out; omega))
  clear O6 GX6 Y6 B6 gk b7 hck KE
  go_wp2_with fail
  refine CD.out.mono ?_
  rintro e w8 ⟨ac, cc, rfl, gc, b8⟩
  obtain ⟨D, hD⟩ : ∃ D, deB raw = D := ⟨_, rfl⟩
  obtain ⟨g, hg⟩ : ∃ g, deF raw = g := ⟨_, rfl⟩
  obtain ⟨eD, hE⟩ : ∃ e, deE raw = e := ⟨_, rfl⟩
  rw [hD] at gc
  rw [hD, hg, hE]
  have P8 := hide (FrAt.new w8 zFr 25)
  simp only [zFr, Fr.cells] at P8
  have GC8 := hide gc
  have z78 := b8.size
  have b8' := hide b8
  clear gc b8 CD
  go_upto_region 7 with (refine wpList_store_fr rfl _ _ rfl w8.heap.size rfl g zFr rfl P8.out ?_)
  intro W9 P9 q9
  replace q9 := newFr q9
  have GC9 := hide (GC8.out.later q9)
  have B9 := hide (later B7.out (later b8'.out q9))
  have b79 := hide (later b8'.out q9)
  have O9 := hide (O7.out.later b79.out)
  have GX9 := hide (GX7.out.later b79.out)
  have Y9 := hide (Y7.out.later b79.out)
  have K9 := hide (K7.out.later b79.out)
  have z79 := b79.out.size
  have R9 := hide (HR.out.later B9.out)
  replace P9 := hide P9
  clear q9 P8 GC8 b8' O7 GX7 Y7 K7 B7 b79 z78
  obtain ⟨p9, hp9⟩ : ∃ p, w8.heap.size = p := ⟨_, rfl⟩
  rw [hp9] at P9 ⊢
  clear hp9
  have CD := hide (rDecode_any R9.out HRB.out (by rw [← HRN.out]; have := HLR.out; omega))
  go_wp2_with fail
  refine CD.out.mono ?_
  rintro e w10 ⟨ad, cd, rfl, fd, b10⟩
  rw [hD] at fd
  rw [hD, hg, hE]
  have P10 := hide (FrAt.new w10 zFr 25)
  simp only [zFr, Fr.cells] at P10
  have b10' := hide b10
  have FD := hide fd
  clear fd b10 CD hD hg hE
  go_upto_region 8 with (refine wpList_store_fr rfl _ _ rfl w10.heap.size rfl g zFr rfl P10.out ?_)
  intro W11 Q11 q11
  have FD11 := hide (FD.out.later (newFr q11))
  have b11 := hide (later b10'.out (newFr q11))
  clear q11 P10 FD b10'
  obtain ⟨p11, hp11⟩ : ∃ p, w10.heap.size = p := ⟨_, rfl⟩
  rw [hp11] at Q11 ⊢
  clear hp11
  replace Q11 := hide Q11
  have P11 := hide (P9.out.later b11.out)
  have GC11 := hide (GC9.out.later b11.out)
  have O11 := hide (O9.out.later b11.out)
  have GX11 := hide (GX9.out.later b11.out)
  have Y11 := hide (Y9.out.later b11.out)
  have K11 := hide (K9.out.later b11.out)
  have B11 := hide (later B9.out b11.out)
  have Z11 := hide (Nat.le_trans z79 b11.out.size)
  clear P9 GC9 O9 GX9 Y9 K9 B9 b11 R9 z79
  have t1 := conv_str (GX11.out.isF (A := fun _ => False) (fun _ _ => id))
  have t2 := conv_str Y11.out
  have t3 := conv_str (GC11.out.isF (A := fun _ => False) (fun _ _ => id))
  have t4 := conv_str FD11.out
  obtain ⟨sx, hsx⟩ : ∃ s, strB X = s := ⟨_, rfl⟩
  obtain ⟨sd, hsd⟩ : ∃ s, strB D = s := ⟨_, rfl⟩
  rw [hsx] at t1 t2
  rw [hsd] at t3 t4
  clear hsx hsd
  have ee := eq_eql
  have eg := eq_guard
  have es : eqF g g = true := eqF_self _
  go_upto_region 8 with fail
  go_cut [20] (fun c wc => c = .bool true ∧ W11 = wc)
  case first =>
    go_wp2_with (first | (refine wpList_load_frg _ rfl p9 rfl g P11.out (by kernel_rfl) ?_) | (refine wpList_load_frg _ rfl p11 rfl g Q11.out (by kernel_rfl) ?_))
    go_meet
    case rel => exact ⟨rfl, rfl⟩
  case rest =>
    obtain ⟨rfl, hw⟩ := hcut
    subst hw
    clear t1 t2 t3 t4 P11 Q11 FD11 Y11 es ee eg
    have ZX : Hid (∀ q, ax = some ⟨q, 0, none⟩ → w4.heap.size ≤ q ∧ q < w5.heap.size) := fun q e => GX5.out.lies q e
    clear GX5
    obtain ⟨m, hm⟩ : ∃ m, D.length = m := ⟨_, rfl⟩
    obtain ⟨l, hl⟩ : ∃ l, X.length = l := ⟨_, rfl⟩
    rw [hm] at GC11 ⊢
    rw [hl] at GX11 ⊢
    have HM := hide hm
    have HLX := hide hl
    have lm : (m : Int) ≤ 9223372036854775807 := by
      obtain ⟨h3, ⟨_, h⟩ | ⟨_, _, _, e, _, _, h1, h2, _⟩⟩ := GC11.out
      · omega
      · simp only [Value.slice.injEq] at e
        unfold maxLen at h2
        omega
    have ll : (l : Int) ≤ 9223372036854775807 := by
      obtain ⟨_, ⟨_, h⟩ | ⟨_, _, _, e, _, _, h1, h2, _⟩⟩ := GX11.out
      · omega
      · simp only [Value.slice.injEq] at e
        unfold maxLen at h2
        omega
    clear hm hl
    go_wp2
    go_loopw [21] (fun vi wr => ∃ (i : Nat) (Z : List Int), vi = .int .i64 (i : Int) ∧ i ≤ m ∧ Hid (Z.length = m) ∧ Hid (Gro w7.heap.size wr (.slice ac m cc) Z) ∧ Hid (But (fun g => w7.heap.size ≤ g) W11 wr)) (fun vi _ => m - (intOf vi).toNat)
    case atStart => exact ⟨0, D, rfl, Nat.zero_le _, HM.out, GC11.out, But.refl _ _⟩
    case round =>
      obtain ⟨i, Z, rfl, hi, hZ, G, Bt⟩ := hrel
      by_cases hlt : i < m
      · obtain ⟨q, rfl, hq, _, hc, hf⟩ := G.out.block (by rw [hZ.out]; omega)
        have c9 := hc i (by rw [hZ.out]; exact hlt)
        have f9 := hf i
        have HQ := hide hq
        obtain ⟨z, ez⟩ : ∃ z, Z[i]?.getD 0 = z := ⟨_, rfl⟩
        rw [ez] at c9
        clear ez hc hf hq hi
        go_wp2
        go_roundw
        case rel => exact ⟨i + 1, Z.set i ((z + 1) % 256), by go_num, by omega, by show _ = _; rw [List.length_set]; exact hZ.out, G.out.store hZ.out.symm i _, Bt.out.setCell (p := ⟨q, i, none⟩) (.inr HQ.out) _⟩
        case measure => simp [intOf]; omega
      · obtain rfl : i = m := by omega
        have GX := hide (GX11.out.kept Bt.out (fun q e k => by have := ZX.out q e; have k : w7.heap.size ≤ q := k; omega))
        have B12 := hide ((But.of_below (K := fun g => w7.heap.size ≤ g) B11.out).trans' Bt.out (fun g _ e => e))
        have O12 := hide (O11.out.but Bt.out (fun g e => by have e : w7.heap.size ≤ g := e; show w4.heap.size ≤ g; omega))
        have K12 := hide (K11.out.but Bt.out (fun g e => .inr e))
        clear G Bt hZ O11 K11 GX11 hlt hi
        go_wp2
        go_loopw [22] (fun vi wq => ∃ (j : Nat) (Z : List Int), vi = .int .i64 (j : Int) ∧ j ≤ l ∧ Hid (Z.length = l) ∧ Hid (Gro w4.heap.size wq (.slice ax l cx) Z) ∧ Hid (But (fun g => w4.heap.size ≤ g ∧ g < w5.heap.size) wr wq)) (fun vi _ => l - (intOf vi).toNat)
        case atStart => exact ⟨0, X, rfl, Nat.zero_le _, HLX.out, GX.out, But.refl _ _⟩
        case round =>
          obtain ⟨j, Y, rfl, hj, hY, G, Bt⟩ := hrel
          by_cases hjl : j < l
          · obtain ⟨q, hax, hq, _, hc, hf⟩ := G.out.block (by rw [hY.out]; omega)
            have HQ := hide (ZX.out q hax)
            subst hax
            have c9 := hc j (by rw [hY.out]; exact hjl)
            have f9 := hf j
            obtain ⟨z, ez⟩ : ∃ z, Y[j]?.getD 0 = z := ⟨_, rfl⟩
            rw [ez] at c9
            clear ez hc hf hq hj
            go_wp2
            go_roundw
            case rel => exact ⟨j + 1, Y.set j ((z + 1) % 256), by go_num, by omega, by show _ = _; rw [List.length_set]; exact hY.out, G.out.store hY.out.symm j _, Bt.out.setCell (p := ⟨q, j, none⟩) (.inr HQ.out) _⟩
            case measure => simp [intOf]; omega
          · obtain rfl : j = l := by omega
            have O13 := O12.out.but Bt.out (fun g e => e.1)
            have K13 := K12.out.but Bt.out (fun g e => .inl e)
            have b13 : But (fun g => w4.heap.size ≤ g) w wr := (B12.out.mono (K' := fun g => w4.heap.size ≤ g) (fun g e => by have e : w7.heap.size ≤ g := e; show w4.heap.size ≤ g; omega)).trans' Bt.out (fun g _ e => e.1)
            have B13 : Below w.heap.size w wr := b13.below (Nat.le_refl _) (fun g hg e => by have e : w4.heap.size ≤ g := e; omega)
            have t1 := conv_str O13
            have t2 := conv_str (HV.out.later B13)
            have t3 := conv_str K13
            have t4 := conv_str (HR.out.later B13)
            obtain ⟨sb, hsb⟩ : ∃ s, strB bs = s := ⟨_, rfl⟩
            obtain ⟨sr, hsr⟩ : ∃ s, strB raw = s := ⟨_, rfl⟩
            rw [hsb] at t1 t2
            rw [hsr] at t3 t4
            have HB13 := hide B13
            clear hsb hsr b13 B13 O13 K13 G Bt GX O12 K12 hj hjl
            go_wp2
            go_ret
            exact ⟨rfl, HB13.out⟩

end Go.Proofs.Ytipebfaappangaa
