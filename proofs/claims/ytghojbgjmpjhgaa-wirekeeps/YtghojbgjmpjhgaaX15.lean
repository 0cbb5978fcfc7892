
/-
  WireKeeps: its walk.
-/
import Derived.Test.YtghojbgjmpjhgaaX14
namespace Go.Proofs.Ytghojbgjmpjhgaa
open Go.RowKit

set_option maxRecDepth 100000 in
set_option maxHeartbeats 8000000 in
theorem Keeps_walk (v : Value) (l : List OpV) (k tp bit : Int) (W : World) (hI : IsO W.heap.size W v l) (hl : l.length ≤ 2513169434843) (_ : -9223372036854775808 ≤ k) (_ : k ≤ 9223372036854775807) (_ : -9223372036854775808 ≤ tp) (_ : tp ≤ 9223372036854775807) (_ : -9223372036854775808 ≤ bit) (_ : bit ≤ 9223372036854775807) :
    Calls Try.prog 6 #[v, .int .i64 k, .int .i64 tp, .int .i64 bit] W fun e W' => e = .returned (.bool true) ∧ Below W.heap.size W W' := by
  have HI := hide hI
  obtain ⟨a, cap, rfl, _, _⟩ := hI
  go_enter Try.func6, Try.ntmps6
  go_wp2_with fail
  refine (awake_any W).mono ?_
  rintro e w1 ⟨rfl, hb1⟩
  go_wp2_with fail
  refine (begun_any w1).mono ?_
  rintro e w2 ⟨rfl, ⟨b, rb, dv, rdv, h2⟩, hb2⟩
  obtain ⟨P, hP⟩ : ∃ P : Pl, P = ⟨w1.heap.size, b, rb, dv, rdv, w1.heap.size⟩ := ⟨_, rfl⟩
  have hPx : w1.heap.size = P.x := by rw [hP]
  have HPN : Hid (W.heap.size ≤ P.n₀) := by rw [hP]; exact hb1.size
  rw [← hP] at h2
  rw [hPx]
  have R2 := hide h2
  have B2 := hide (hb1.trans (hb2.mono hb1.size))
  clear h2 hb1 hb2 hP hPx
  go_wp2
  go_loopw [11] (fun vi wr => ∃ (i : Nat) (ρ : Nat → Nat) (ck : Int) (L R : Nat → List (Value × Frm)) (D : Nat → Dev) (T F : Nat → Nat), vi = .int .i64 (i : Int) ∧ i ≤ l.length ∧ Hid (Rig P ρ wr ck L R D T F i) ∧ Hid (Below W.heap.size W wr)) (fun vi _ => l.length - (intOf vi).toNat)
  case atStart => exact ⟨0, _, _, _, _, _, _, _, rfl, Nat.zero_le _, R2.out, B2.out⟩
  case round =>
    obtain ⟨i, ρ, ck, L, R, D, T, F, rfl, hi, hR, hB⟩ := hrel
    clear R2 B2
    by_cases hlt : i < l.length
    · obtain ⟨a', cap', e', hc, hf⟩ := HI.out.below hB.out
      simp only [Value.slice.injEq] at e'
      obtain ⟨rfl, _, rfl⟩ := e'
      obtain ⟨gl, off, rfl, hgl, hcs⟩ := hc (by omega)
      obtain ⟨o, ho⟩ : ∃ o, l[i]? = some o := ⟨l[i], List.getElem?_eq_getElem hlt⟩
      obtain ⟨q0, q1, q2, q3, q4⟩ := hcs i o ho
      obtain ⟨hbv, hbl, hby⟩ := hf o (List.mem_of_getElem? ho)
      obtain ⟨dd, dc, ed, _, _⟩ := hbv.shape
      obtain ⟨kd, od, ok, ot, odv, ods⟩ := o
      simp only at q0 q1 q2 q3 q4 hbv hbl ed
      subst ed
      have zi : (i : Int) < (l.length : Int) := by omega
      have zl : (l.length : Int) ≤ 2513169434843 := by omega
      have DA := hide (does_any hR.out (by omega) kd od ok ot dd dc ods (hbv.avoid (fun g hg e => Nat.le_trans HPN.out e)) hbl (hide hby))
      clear hcs hf hc ho hbv hbl hby
      go_wp2_with fail
      refine DA.out.mono ?_
      rintro e w4 ⟨rfl, ck', L', R', D', T', F', ⟨ρ', hr4, he4, hb4⟩, _⟩
      have R4 := hide hr4
      have B4 := hide (below_mine hB.out hb4 (fun g e => Nat.le_trans HPN.out (hR.out.low g e)))
      clear hr4 he4 hb4 DA q0 q1 q2 q3 q4
      go_wp2
      go_roundw
      case rel => exact ⟨i + 1, ρ', ck', L', R', D', T', F', by go_num, by omega, R4.out, B4.out⟩
      case measure => simp [intOf]; omega
    · obtain rfl : i = l.length := by omega
      have HH := hide hR.out.toHalf
      have BY : Hid (∀ f ∈ ab L 0, Byt f.bs) := hR.out.i.bt 0 (by omega)
      have FL : Hid (∀ f ∈ ab L 0, f.bs.length ≤ 274) := fun f hf => by
        obtain ⟨p, hp, rfl⟩ := List.mem_map.1 hf
        exact hR.out.n.fl 0 (by omega) p hp
      have hln := hR.out.i.ln 0 (by omega)
      obtain ⟨n, hn⟩ : ∃ n, n = (ab L 0).length := ⟨_, rfl⟩
      rw [← hn] at hln
      have HN := hide hn
      have hnl : (L 0).length = n := by rw [hn]; simp [ab]
      have cx := HH.out.c.cw
      have XL := Len_any HH.out.n 0
      rw [show (if isDir 0 = true then ((L (0 : Int).toNat).length : Int) else 0) = (n : Int) from by rw [if_pos (by decide)]; show ((L 0).length : Int) = n; rw [hnl]] at XL
      have HXL := hide XL
      have zl : (l.length : Int) ≤ 2513169434843 := by omega
      have zn : (n : Int) ≤ 2513169434843 := by omega
      clear XL hn hnl hR HI
      go_wp2_with fail
      refine HXL.out.mono ?_
      rintro e wy ⟨rfl, rfl⟩
      clear HXL cx
      generalize hws : wy = ws at *
      clear hws
      obtain ⟨B, hB0⟩ : ∃ B, B = ws.heap.size := ⟨_, rfl⟩
      have HB0 := hide hB0
      have BS : Hid (Below B ws ws) := by rw [hB0]; exact Below.refl _ _
      have RW0 : Hid (ws.ownsRow B 48 3 (.slice none 0 0) 0 (flat [])) := World.ownsRow_nil _ _ _ _
      have SN0 : Hid (Seen3 B ws (.slice none 0 0) (ab L 0) []) := fun j p hp => by simp at hp
      have LAT : Hid (∀ W, Below B ws W → Half P ρ W ck L D T F l.length) := fun W hb => HH.out.later (by rw [← HB0.out]; exact hb)
      clear hB0 HH
      go_wp2
      go_loopw [13, 14] (fun v3 v4 wq => ∃ (i : Nat) (a : Option Addr) (c : Nat) (fs : List (Value × Frm)), v4 = .int .i64 (i : Int) ∧ v3 = .slice a i c ∧ i ≤ n ∧ Hid (fs.length = i) ∧ Hid (wq.ownsRow B 48 3 (.slice a i c) i (flat fs)) ∧ Hid (Seen3 B wq (.slice a i c) (ab L 0) fs) ∧ Hid (Below B ws wq)) (fun _ v4 _ => n - (intOf v4).toNat)
      case atStart => exact ⟨0, none, 0, [], rfl, rfl, Nat.zero_le _, rfl, RW0.out, SN0.out, BS.out⟩
      case round =>
        obtain ⟨i, a, c, fs, rfl, rfl, hi, hfl, hRow, hSn, hBq⟩ := hrel
        clear RW0 SN0 BS
        have hBs : B ≤ wr.heap.size := by rw [HB0.out]; exact hBq.out.size
        by_cases hlt : i < n
        · have zi : (i : Int) < (n : Int) := by omega
          have zi0 : (0 : Int) ≤ (i : Int) := by omega
          obtain ⟨f, hf⟩ : ∃ f, (ab L 0)[i]? = some f := ⟨_, List.getElem?_eq_getElem (by rw [← HN.out]; exact hlt)⟩
          have cx := (LAT.out wr hBq.out).c.cw
          have X := hide (See0_any (LAT.out wr hBq.out) i f hf)
          have HF := hide hf
          clear hf
          go_wp2_with fail
          refine X.out.mono ?_
          rintro e w7 ⟨fa, fc, rfl, hG, hb7⟩
          obtain ⟨s, hs⟩ : ∃ s, s = w7.heap.size := ⟨_, rfl⟩
          have t8 := T3.new w7 (.slice fa f.bs.length fc) (.bool f.bad) (.int .i64 f.tick) 48
          have b8 : Below w7.heap.size w7 (w7.alloc (.cells #[.slice fa f.bs.length fc, .bool f.bad, .int .i64 f.tick] 48)) := (Below.refl _ _).alloc (Nat.le_refl _) _
          have bb := hb7.trans (b8.mono hb7.size)
          have B8 := hide (hBq.out.trans (bb.mono hBs))
          have R8 := hide (row_keep hRow.out (But.of_below (K := fun _ => False) bb) (fun _ _ => id))
          have S8 := hide (hSn.out.later bb)
          have NF := hide ((hG.isF (A := fun g => g < B ∨ (Value.slice a i c).ownBlock = some g) (fun g hg e => by
            rcases e with e | e
            · omega
            · have := (World.ownsRow.lt hRow.out g e).2; omega)).later b8)
          rw [← hs] at t8
          have T8 := hide t8
          have hs' := hs
          have hz8 : B ≤ (w7.alloc (.cells #[.slice fa f.bs.length fc, .bool f.bad, .int .i64 f.tick] 48)).heap.size := Nat.le_trans hBs bb.size
          clear hs t8 b8 bb hG hb7 X cx hRow hSn hBq
          go_upto_region 15 with fail
          rw [← hs']
          clear hs'
          generalize w7.alloc (.cells #[.slice fa f.bs.length fc, .bool f.bad, .int .i64 f.tick] 48) = w8 at *
          obtain ⟨s0, s1, s2, _, _, _⟩ := T8.out
          obtain ⟨inf, hin, hz0, hz1, hz2⟩ := info_parts info_ow
          have t9 := T3.new w8 (.slice fa f.bs.length fc) (.bool f.bad) (.int .i64 f.tick) 48
          have b9 : Below w8.heap.size w8 (w8.alloc (.cells #[.slice fa f.bs.length fc, .bool f.bad, .int .i64 f.tick] 48)) := (Below.refl _ _).alloc (Nat.le_refl _) _
          obtain ⟨g', c', w', hrun, hrow', hb', hg', _, _⟩ := run_more 56 48 inf (.agg #[.slice none 0 0, .bool false, .int .i64 0]) 3 40 Try.underlying56 hin hz0 hz1 hz2 rfl (by omega) (World.ownsRow.alloc R8.out (.cells #[.slice fa f.bs.length fc, .bool f.bad, .int .i64 f.tick] 48)) ⟨w8.heap.size, 0, none⟩ 1 1 (cel (.slice fa f.bs.length fc, f)) rfl (fun j u hu => by
              have hj : j < 3 := (List.getElem?_eq_some_iff.1 hu).1
              rw [Addr.add_lit]
              have : j = 0 ∨ j = 1 ∨ j = 2 := by omega
              rcases this with rfl | rfl | rfl
              · rw [← hu]; exact t9.c0
              · rw [← hu]; exact t9.c1
              · rw [← hu]; exact t9.c2) (fun u hu => by
              simp only [cel, List.mem_cons, List.not_mem_nil, or_false] at hu
              rcases hu with rfl | rfl | rfl <;> rfl) (by omega) (Nat.le_trans hz8 b9.size) (by unfold maxLen; omega) (by omega)
          have hown : ∀ x, (Value.slice a i c).ownBlock = some x → B ≤ x := fun x e => (World.ownsRow.lt R8.out x e).1
          have HB2 : Hid (Below B ws w') := (B8.out.trans (b9.mono hz8)).trans (hb'.below (Nat.le_trans hz8 b9.size) (fun x hx e => by have := hown x e; omega))
          have HR := hide hrun
          have HROW : Hid (w'.ownsRow B 48 3 (.slice (some ⟨g', 0, none⟩) (i + 1) c') (i + 1) (flat (fs ++ [(.slice fa f.bs.length fc, f)]))) := by rw [flat_append]; exact hrow'
          have HSN : Hid (Seen3 B w' (.slice (some ⟨g', 0, none⟩) (i + 1) c') (ab L 0) (fs ++ [(.slice fa f.bs.length fc, f)])) := (S8.out.later b9).grown hb' rfl hg' (by rw [hfl.out]; exact HF.out) (NF.out.later b9)
          have HFL : Hid ((fs ++ [(Value.slice fa f.bs.length fc, f)]).length = i + 1) := by rw [List.length_append, hfl.out]; rfl
          clear hrun hrow' hb' hg' t9 b9 hin hz0 hz1 hz2 hown hz8 hBs
          go_wp2_with (at_builtin; refine wpList_app rfl _ _ 56 rfl _ _ rfl rfl HR.out ?_)
          go_roundw
          case rel => exact ⟨i + 1, some ⟨g', 0, none⟩, c', _, by go_num, rfl, by omega, HFL.out, HROW.out, HSN.out, HB2.out⟩
          case measure => simp [intOf]; omega
        · obtain rfl : i = n := by omega
          have HQ := hide (LAT.out wr hBq.out)
          have XM := Move_any HQ.out.n 0 k tp
          have IV := hide (HQ.out.i.move 0 k tp)
          have cx := HQ.out.c.cw
          have ROB : Hid (∀ g, ρ g ≠ 0 → g < B) := fun g e => by rw [HB0.out]; exact (LAT.out ws (by rw [HB0.out]; exact Below.refl _ _)).n.lt g e
          have LOW := hide HQ.out.low
          have BW : Hid (Below W.heap.size W wr) := hB.out.trans (hBq.out.mono (by rw [HB0.out]; exact hB.out.size))
          by_cases hgood : 0 ≤ k ∧ k < (i : Int) ∧ 0 ≤ tp ∧ tp < (i : Int)
          · obtain ⟨hk0, hk1, ht0, ht1⟩ := hgood
            obtain ⟨j, rfl⟩ : ∃ j : Nat, k = (j : Int) := ⟨k.toNat, by omega⟩
            obtain ⟨u, rfl⟩ : ∃ u : Nat, tp = (u : Int) := ⟨tp.toNat, by omega⟩
            have hj : j < (ab L 0).length := by rw [← HN.out]; omega
            have hu : u < (ab L 0).length := by rw [← HN.out]; omega
            obtain ⟨f, hf⟩ : ∃ f, (ab L 0)[j]? = some f := ⟨_, List.getElem?_eq_getElem hj⟩
            obtain ⟨p, hp⟩ : ∃ p, fs[j]? = some p := ⟨_, List.getElem?_eq_getElem (by rw [hfl.out]; omega)⟩
            obtain ⟨hp1, hp2⟩ := hSn.out j p hp
            obtain rfl : f = p.2 := by rw [hf] at hp1; exact Option.some.inj hp1
            obtain ⟨pv, f⟩ := p
            simp only at hf hp1 hp2
            obtain ⟨pa, pc, rfl, _, _⟩ := hp2.shape
            obtain ⟨f0, f1, f2⟩ := flat_get fs j _ hp
            obtain ⟨gr, rfl⟩ : ∃ g, a = some ⟨g, 0, none⟩ := by
              obtain ⟨_, ⟨e, e0⟩ | ⟨g, cap, cur, e, _⟩⟩ := hRow.out
              · omega
              · simp only [Value.slice.injEq] at e; exact ⟨g, e.1⟩
            have r0 : wr.cell? ⟨gr, j * 3, none⟩ = some (.slice pa f.bs.length pc) := by rw [World.ownsRow.cellAt hRow.out _ (by omega)]; exact f0
            have r2 : wr.cell? ⟨gr, j * 3 + 2, none⟩ = some (.int .i64 f.tick) := by rw [World.ownsRow.cellAt hRow.out _ (by omega)]; exact f2
            have hgr := (World.ownsRow.lt hRow.out gr rfl)
            obtain ⟨me, ma⟩ := mvE_at (l := ab L) hj hu
            rw [hf] at ma
            have hmv : (mvA (ab L) 0 (j : Int) (u : Int) 0)[u]? = some f := by rw [ma, upd_same]; exact moved_get _ hj hu
            have hml : (mvA (ab L) 0 (j : Int) (u : Int) 0).length = i := by rw [ma, upd_same, moved_len hj, ← HN.out]
            have HY : Hid (Byt f.bs) := BY.out f (List.mem_of_getElem? hf)
            have hfl2 := FL.out f (List.mem_of_getElem? hf)
            rw [me] at XM
            have PF : Hid (IsF (Mine ρ) wr (.slice pa f.bs.length pc) f.bs) := hp2.avoid (fun g _ e => .inl (ROB.out g e))
            have R0 := hide r0
            have R2 := hide r2
            have HX := hide XM
            have HMV := hide hmv
            have HML := hide hml
            clear XM me ma hmv hml hp hp1 hp2 f0 f1 f2 r0 r2 hf hSn hRow hfl hj hu LAT BY FL
            go_wp2_with fail
            refine HX.out.mono ?_
            rintro e w8 ⟨rfl, L8, d8, a8⟩
            obtain ⟨ρ8, h8, e8, b8⟩ := HQ.out.did d8 (by rw [a8]; exact IV.out)
            have H8 := hide h8
            have R08 := hide ((b8.cell (p := ⟨gr, j * 3, none⟩) hgr.2 (fun e => by have := ROB.out gr e; omega)).trans R0.out)
            have R28 := hide ((b8.cell (p := ⟨gr, j * 3 + 2, none⟩) hgr.2 (fun e => by have := ROB.out gr e; omega)).trans R2.out)
            have PF8 := hide (PF.out.ext b8 (fun _ e => e) e8)
            have RB8 : Hid (ρ8 gr = 0 ∧ gr < w8.heap.size) := ⟨by rw [e8 gr hgr.2]; by_cases e : ρ gr = 0; exact e; have := ROB.out gr e; omega, Nat.lt_of_lt_of_le hgr.2 b8.size⟩
            have BW8 := hide (below_mine BW.out b8 (fun g e => Nat.le_trans HPN.out (LOW.out g e)))
            have A8 : Hid ((ab L8 0)[u]? = some f) := by rw [a8]; exact HMV.out
            have XL := Len_any h8.n 0
            rw [show (if isDir 0 = true then ((L8 (0 : Int).toNat).length : Int) else 0) = (i : Int) from by
              rw [if_pos (by decide)]; show ((L8 0).length : Int) = i
              have := HML.out; rw [← a8] at this; simp only [ab, List.length_map] at this; rw [this]] at XL
            have HXL := hide XL
            have c8 := h8.c.cw
            clear XL h8 e8 b8 d8 a8 HX IV HQ R0 R2 PF BW LOW ROB hgr HML HMV cx hBq hB
            go_wp2_with fail
            refine HXL.out.mono ?_
            rintro e wy ⟨rfl, rfl⟩
            clear HXL
            have X := hide (See0_any H8.out u f A8.out)
            go_wp2_with fail
            refine X.out.mono ?_
            rintro e w9 ⟨fa, fc, rfl, hG, hb9⟩
            obtain ⟨s, hs⟩ : ∃ s, s = w9.heap.size := ⟨_, rfl⟩
            have t9 := T3.new w9 (.slice fa f.bs.length fc) (.bool f.bad) (.int .i64 f.tick) 48
            have b9 : Below w9.heap.size w9 (w9.alloc (.cells #[.slice fa f.bs.length fc, .bool f.bad, .int .i64 f.tick] 48)) := (Below.refl _ _).alloc (Nat.le_refl _) _
            have bb := hb9.trans (b9.mono hb9.size)
            have H9 := hide (H8.out.later bb)
            have R09 := (bb.cell (p := ⟨gr, j * 3, none⟩) RB8.out.2).trans R08.out
            have R29 := (bb.cell (p := ⟨gr, j * 3 + 2, none⟩) RB8.out.2).trans R28.out
            have PF9 := hide (PF8.out.later bb)
            have GF9 := hide ((hG.isF (A := Mine ρ8) (fun g hg e => by have := H8.out.n.lt g e; omega)).later b9)
            have BW9 := hide (BW8.out.trans (bb.mono BW8.out.size))
            have SZ9 : Hid (ρ8 s = 0) := by
              by_cases e : ρ8 s = 0
              · exact e
              · have := H8.out.n.lt s e; have := hb9.size; omega
            rw [← hs] at t9
            have hs' := hs
            have T9 := hide t9
            clear hs t9 b9 bb hG hb9 X c8 R08 R28 PF8 BW8 H8 RB8
            go_upto_region 22 with fail
            rw [← hs']
            clear hs'
            generalize w9.alloc (.cells #[.slice fa f.bs.length fc, .bool f.bad, .int .i64 f.tick] 48) = w10 at *
            obtain ⟨s0, s1, s2, _, _, _⟩ := T9.out
            have cvx : ∀ n, (convert 27 9 (.slice fa f.bs.length fc)).run Try.prog (w10.drewN n) = .ok (.string (strB f.bs)) (w10.drewN n) := fun n => conv_str (GF9.out.later (drewN_below' w10 n))
            have cvy : ∀ n, (convert 27 9 (.slice pa f.bs.length pc)).run Try.prog (w10.drewN n) = .ok (.string (strB f.bs)) (w10.drewN n) := fun n => conv_str (PF9.out.later (drewN_below' w10 n))
            generalize hsx : strB f.bs = sx at cvx cvy
            clear hsx
            go_quiet (fail)
            have bn := drewN_below' w10 nq
            have H10 := hide (H9.out.later bn)
            have T10 := hide (T9.out.later bn)
            have GF10 := hide (GF9.out.later bn)
            have BW10 := hide (BW9.out.trans (bn.mono BW9.out.size))
            clear cvx cvy R09 R29 s0 s1 s2 PF9 GF9 BW9 H9 T9 bn
            generalize w10.drewN nq = w11 at *
            have c11 := H10.out.c.cw
            have DT := hide (dm_twice A8.out HY.out bit)
            have DE : Hid (dmE (ab L8) 0 (u : Int) bit = (if 0 ≤ bit ∧ bit < 8 * (f.bs.length : Int) then 0 else 1)) := (dmE_at A8.out bit).1
            have XD := hide (Damage_any H10.out.n 0 (u : Int) bit)
            have IV1 := hide (H10.out.i.damage 0 (u : Int) bit)
            have IV2 := hide (IV1.out.damage 0 (u : Int) bit)
            obtain ⟨E, hE⟩ : ∃ E, E = dmE (ab L8) 0 (u : Int) bit := ⟨_, rfl⟩
            rw [← hE] at XD DE DT
            clear hE A8
            go_wp2_with fail
            refine XD.out.mono ?_
            rintro e w12 ⟨rfl, L12, d12, a12⟩
            obtain ⟨ρ12, h12, e12, b12⟩ := H10.out.did d12 (by rw [a12]; exact IV1.out)
            have H12 := hide h12
            have T12 := hide (T10.out.but b12 (fun e => e SZ9.out))
            have SZ12 : Hid (ρ12 s = 0) := (e12 s (T3.lt T10.out)).trans SZ9.out
            have GF12 := hide (GF10.out.ext b12 (fun _ e => e) e12)
            have BW12 := hide (below_mine BW10.out b12 (fun g e => Nat.le_trans HPN.out (H10.out.low g e)))
            have X2 := Damage_any h12.n 0 (u : Int) bit
            rw [a12, DT.out.1] at X2
            have XD2 := hide X2
            have c12 := h12.c.cw
            clear X2 h12 e12 b12 d12 a12 XD IV1 H10 T10 SZ9 GF10 BW10 c11
            go_wp2_with fail
            refine XD2.out.mono ?_
            rintro e w13 ⟨rfl, L13, d13, a13⟩
            obtain ⟨ρ13, h13, e13, b13⟩ := H12.out.did d13 (by rw [a13]; exact IV2.out)
            have H13 := hide h13
            have T13 := hide (T12.out.but b13 (fun e => e SZ12.out))
            have GF13 := hide (GF12.out.ext b13 (fun _ e => e) e13)
            have BW13 := hide (below_mine BW12.out b13 (fun g e => Nat.le_trans HPN.out (H12.out.low g e)))
            obtain ⟨f3, hf3, hfb, hfx⟩ := DT.out.2
            rw [← a13] at hf3
            have X := See0_any h13 u f3 hf3
            rw [hfb] at X
            have HX3 := hide X
            have HFX := hide hfx
            have c13 := h13.c.cw
            clear X h13 e13 b13 d13 a13 hf3 hfb hfx XD2 IV2 H12 T12 SZ12 GF12 BW12 c12 DT
            obtain ⟨f3b, f3x, f3t⟩ := f3
            simp only at HX3 HFX
            go_wp2_with fail
            refine HX3.out.mono ?_
            rintro e w14 ⟨xa, xc, rfl, hG, hb14⟩
            obtain ⟨s4, hs4⟩ : ∃ s4, s4 = w14.heap.size := ⟨_, rfl⟩
            have t15 := T3.new w14 (.slice xa f.bs.length xc) (.bool f3x) (.int .i64 f3t) 48
            have b15 : Below w14.heap.size w14 (w14.alloc (.cells #[.slice xa f.bs.length xc, .bool f3x, .int .i64 f3t] 48)) := (Below.refl _ _).alloc (Nat.le_refl _) _
            have bb := hb14.trans (b15.mono hb14.size)
            have T15 := hide (T13.out.later bb)
            have GF15 := hide (GF13.out.later bb)
            have XF15 := hide ((hG.isF (A := fun _ => False) (fun _ _ => id)).later b15)
            have BW15 := hide (BW13.out.trans (bb.mono BW13.out.size))
            rw [← hs4] at t15
            have hs4' := hs4
            have U15 := hide t15
            clear hs4 t15 b15 bb hG hb14 HX3 c13 T13 GF13 BW13 H13
            go_upto_region 27 with fail
            rw [← hs4']
            clear hs4'
            generalize w14.alloc (.cells #[.slice xa f.bs.length xc, .bool f3x, .int .i64 f3t] 48) = w15 at *
            obtain ⟨s0, s1, s2, _, _, _⟩ := T15.out
            obtain ⟨u0, u1, u2, _, _, _⟩ := U15.out
            have x1 := conv_str XF15.out
            have x2 := conv_str GF15.out
            generalize hsy : strB f.bs = sy at x1 x2
            clear hsy
            have z8 : (8 : Int) * (f.bs.length : Int) ≤ 9223372036854775807 := by omega
            have hde := DE.out
            by_cases b0 : 0 ≤ bit
            · by_cases b1 : bit < 8 * (f.bs.length : Int)
              · rw [if_pos ⟨b0, b1⟩] at hde
                have hx := HFX.out hde
                subst hx
                subst hde
                go_wp2
                go_ret
                exact ⟨rfl, BW15.out⟩
              · rw [if_neg (by omega)] at hde
                subst hde
                cases f3x <;> (go_wp2; go_ret; exact ⟨rfl, BW15.out⟩)
            · rw [if_neg (by omega)] at hde
              subst hde
              cases f3x <;> (go_wp2; go_ret; exact ⟨rfl, BW15.out⟩)
          · have me := mvE_off (l := ab L) (k := k) (t := tp) (by rw [← HN.out]; exact hgood)
            have ma := mvA_off me
            rw [ma] at XM IV
            obtain ⟨E, hE⟩ : ∃ E, E = mvE (ab L) 0 k tp := ⟨_, rfl⟩
            rw [← hE] at XM me
            have HX := hide XM
            clear XM ma hE hSn hRow hfl LAT BY FL
            go_wp2_with fail
            refine HX.out.mono ?_
            rintro e w8 ⟨rfl, L8, d8, a8⟩
            obtain ⟨ρ8, h8, e8, b8⟩ := HQ.out.did d8 (by rw [a8]; exact IV.out)
            have BW8 := hide (below_mine BW.out b8 (fun g e => Nat.le_trans HPN.out (LOW.out g e)))
            have XL := Len_any h8.n 0
            rw [show (if isDir 0 = true then ((L8 (0 : Int).toNat).length : Int) else 0) = (i : Int) from by
              rw [if_pos (by decide)]; show ((L8 0).length : Int) = i
              have := HN.out; rw [← a8] at this; simp only [ab, List.length_map] at this; rw [this]] at XL
            have HXL := hide XL
            have c8 := h8.c.cw
            have e1 : (E == 0) = false := by simp [me]
            have e2 : (E != 0) = true := by simp [me]
            clear XL h8 e8 b8 d8 a8 HX IV HQ BW LOW ROB cx hBq hB
            by_cases b0 : 0 ≤ k
            · by_cases b1 : k < (i : Int)
              · by_cases b2 : 0 ≤ tp
                · have b3 : ¬ tp < (i : Int) := fun b3 => hgood ⟨b0, b1, b2, b3⟩
                  clear hgood
                  go_wp2_with fail
                  refine HXL.out.mono ?_
                  rintro e wy ⟨rfl, rfl⟩
                  go_wp2
                  go_ret
                  exact ⟨rfl, BW8.out⟩
                · clear hgood
                  go_wp2_with fail
                  refine HXL.out.mono ?_
                  rintro e wy ⟨rfl, rfl⟩
                  go_wp2
                  go_ret
                  exact ⟨rfl, BW8.out⟩
              · clear hgood
                go_wp2_with fail
                refine HXL.out.mono ?_
                rintro e wy ⟨rfl, rfl⟩
                go_wp2
                go_ret
                exact ⟨rfl, BW8.out⟩
            · clear hgood
              go_wp2_with fail
              refine HXL.out.mono ?_
              rintro e wy ⟨rfl, rfl⟩
              go_wp2
              go_ret
              exact ⟨rfl, BW8.out⟩
end Go.Proofs.Ytghojbgjmpjhgaa
