
/-
  RingHolds' own calls: counted.
-/
import Derived.Test.YtjkfjijnjkpbbaaJ6
namespace Go.Proofs.Ytjkfjijnjkpbbaa
open Go.RowKit

theorem row_cell {w : World} {N g c : Nat} {l : List Int} (h : w.ownsRow N 3 1 (.slice (some ⟨g, 0, none⟩) l.length c) l.length (ints l)) (k : Nat) (hk : k < l.length) : w.cell? ⟨g, k, none⟩ = some (.int .i64 (l[k]?.getD 0)) := by
  rw [World.ownsRow.cellAt h k (by omega)]
  unfold ints
  rw [List.getElem?_map, List.getElem?_eq_getElem hk]
  rfl

/-- a copy of the numbers -/
theorem copy_held {W : World} {b n : Nat} {hl : Nat → Nat} (h : HeldAt W b n hl) (hn : n ≤ 4096) : ∃ g' c' w', (Builtin.append_ #[31, 31] 31 #[.slice none 0 0, .slice (some ⟨b, 0, none⟩) n n]).run Try.prog W = .ok (.slice (some ⟨g', 0, none⟩) n c') w' ∧ HeldAt w' g' n hl ∧ Below W.heap.size W w' ∧ W.heap.size ≤ g' := by
  obtain ⟨inf, hi, hz0, hz1, hz2⟩ := info_parts info_int
  obtain ⟨g', c', w', hrun, ho, hbut, hg, _, _⟩ := run_more (B := W.heap.size) (W := W) 31 3 inf _ 1 8 Try.underlying31 hi hz0 hz1 hz2 rfl (by omega) (World.ownsRow_nil _ _ _ _) ⟨b, 0, none⟩ n n ((List.range n).map (fun i => Value.int .i64 (hl i : Int))) (by simp) (fun j u hv => by
    have hj : j < n := by have := (List.getElem?_eq_some_iff.1 hv).1; simpa using this
    rw [Addr.add_lit, Nat.zero_add, h.cell j hj]
    rw [List.getElem?_map, List.getElem?_range hj] at hv
    exact hv) (by intro u hu; obtain ⟨i, _, rfl⟩ := List.mem_map.1 hu; rfl) h.n0 (Nat.le_refl _) (by unfold maxLen; omega) (by omega)
  rw [Nat.zero_add] at hrun ho
  have hgN : W.heap.size ≤ g' := by
    rcases hg with e | e
    · cases e
    · exact e
  refine ⟨g', c', w', hrun, ⟨h.n0, fun i hi => ?_, fun k => ?_⟩, hbut.below (Nat.le_refl _) (fun _ _ e => by cases e), hgN⟩
  · rw [World.ownsRow.cellAt ho i (by omega)]
    simp [hi]
  · obtain ⟨_, ⟨e, _⟩ | ⟨g, cap, cur, e, _, hh, _⟩⟩ := ho
    · cases e
    · simp only [Value.slice.injEq, Option.some.injEq, Addr.mk.injEq, and_true] at e
      rw [e.1]
      unfold World.frozen?
      rw [hh]
      simp

set_option maxRecDepth 100000 in
set_option maxHeartbeats 4000000 in
theorem counted_any {A : Nat → Prop} {w : World} {x b : Nat} {q : Bl} {n : Nat} {X : Rg} {hl : Nat → Nat} {G P : List (List Int)} (R : RigP A w x q n X.D X.B X.s X.c) (H : HeldAt w b n hl) (h : Hd n X hl G P) (hbd : ∀ i, i < n → hl i < 2305843009213693952) :
    Calls Try.prog 18 #[.pointer (some ⟨x, 0, none⟩), .slice (some ⟨b, 0, none⟩) n n] w fun e w' => e = .returned (.bool true) ∧ Below w.heap.size w w' := by
  have hn : n ≤ 4096 := R.p.pool.n1
  have z2 : (n : Int) ≤ 4096 := by omega
  obtain ⟨g, gc, w1, hrun, H1', b1, hg⟩ := copy_held H hn
  have HRN := hide hrun
  have R1 := hide ((R.avoid (A' := fun y => A y ∨ w.heap.size ≤ y) (fun y hy e => e.elim id (fun e => by omega)) (.inl R.p.dev.mem) (.inl R.p.ag) (.inl R.p.ar)).later b1)
  have HH1 := hide H1'
  have B1 := hide b1
  have HD := hide h
  have HG := hide hg
  have HBD := hide hbd
  have n0 := H.n0
  have LT := hide (And.intro R.p.dev.lt (And.intro R.p.pool.blt (And.intro R.p.pool.glt (And.intro R.p.rlt R.xlt))))
  have XS := hide (Sending_any R1.out.p)
  clear R H hrun H1' b1 h hg hbd
  go_enter Try.func18, Try.ntmps18
  go_upto_region 2 with (at_builtin; refine wpList_app rfl _ _ 31 31 rfl _ _ rfl rfl HRN.out ?_)
  have k2 := R1.out.c2
  go_wp2_with fail
  refine XS.out.mono ?_
  rintro _ w2 ⟨v, rfl, r2, b2⟩
  obtain ⟨sa, sc, rfl, hsa⟩ := row_shape r2
  have R2 := hide (R1.out.later b2)
  have HH2 := hide (HH1.out.later b2)
  have B2 := hide (B1.out.trans (b2.mono B1.out.size))
  have S2 := hide r2
  have HSA := hide hsa.1
  have GL : Hid (g < w1.heap.size) := HH1.out.lt
  have XC := hide (Coming_any R2.out.p)
  clear r2 hsa XS R1 HH1 B1 k2
  have k2 := R2.out.c2
  have GL2 : Hid (w1.heap.size ≤ w2.heap.size) := b2.size
  clear b2
  go_wp2_with fail
  refine XC.out.mono ?_
  rintro _ w3 ⟨v, rfl, r3, b3⟩
  obtain ⟨ca, cc, rfl, hca⟩ := row_shape r3
  have R3 := hide (R2.out.later b3)
  have HH3 := hide (HH2.out.later b3)
  have B3 := hide (B2.out.trans (b3.mono B2.out.size))
  have S3 := hide (row_keep S2.out (But.of_below (K := fun _ => False) b3) (fun _ _ => id))
  have C3 := hide r3
  have HCA := hide hca.1
  clear r3 b3 hca XC R2 HH2 B2 S2 k2
  have ls := R3.out.p.s.m15
  have lc := R3.out.p.c.m15
  have zs : (X.s.ids.length : Int) ≤ 15 := by omega
  have zc : (X.c.ids.length : Int) ≤ 15 := by omega
  have RS := hide HD.out.rs
  have RC := hide HD.out.rc
  -- the first loop
  go_wp2
  go_loopw [8] (fun v8 wr => ∃ k : Nat, v8 = .int .i64 (k : Int) ∧ k ≤ X.s.ids.length ∧ Hid (But (Only g) w3 wr) ∧ Hid (HeldAt wr g n (fun i => hl i + (X.s.ids.take k).count (i : Int)))) (fun v8 _ => X.s.ids.length - (intOf v8).toNat)
  case atStart => exact ⟨0, rfl, Nat.zero_le _, But.refl _ _, by show HeldAt _ _ _ _; simpa using HH3.out⟩
  case round =>
    obtain ⟨k, rfl, hk, hB, hH⟩ := hrel
    have nb : ∀ (a : Nat), w1.heap.size ≤ a → ¬ Only g a := fun a ha e => by have e : a = g := e; have := GL.out; omega
    have NB := hide nb
    clear nb
    by_cases hlt : k < X.s.ids.length
    · obtain ⟨sg, rfl, hsg⟩ := HSA.out (by omega)
      have zk : (k : Int) < (X.s.ids.length : Int) := by omega
      have Sr := row_keep S3.out hB.out (fun a ha e => NB.out a (World.ownsRow.lt S3.out a ha).1 e)
      have cs := row_cell Sr k hlt
      obtain ⟨z, hz⟩ : ∃ z, X.s.ids[k]? = some z := ⟨_, List.getElem?_eq_getElem hlt⟩
      rw [hz] at cs
      have hzr := RS.out z (List.mem_of_getElem? hz)
      obtain ⟨i, rfl⟩ : ∃ i : Nat, z = i := ⟨z.toNat, by omega⟩
      have hi : i < n := by omega
      have zi : (i : Int) < (n : Int) := by omega
      have cs : wr.cell? ⟨sg, k, none⟩ = some (.int .i64 (i : Int)) := cs
      obtain ⟨y, hy⟩ : ∃ y : Int, y = ((hl i + (X.s.ids.take k).count (i : Int) : Nat) : Int) := ⟨_, rfl⟩
      have hcl : (X.s.ids.take k).count (i : Int) ≤ 15 := Nat.le_trans List.count_le_length (by rw [List.length_take]; omega)
      have hbi := HBD.out i hi
      have zy : y < 4611686018427387904 := by omega
      have zy0 : 0 ≤ y := by omega
      have hc : wr.cell? ⟨g, i, none⟩ = some (.int .i64 y) := by rw [hy]; exact hH.out.cell i hi
      have hf := hH.out.fz i
      have E1 : (fun j => hl j + (X.s.ids.take (k + 1)).count (j : Int)) = upd (fun j => hl j + (X.s.ids.take k).count (j : Int)) i (hl i + (X.s.ids.take k).count (i : Int) + 1) := by
        funext j
        rw [take_snoc hlt, hz, List.count_append]
        show _ + (_ + [(i : Int)].count (j : Int)) = _
        by_cases e : j = i
        · subst e; rw [upd_same, List.count_singleton_self]; omega
        · rw [upd_other _ _ _ _ e, List.count_singleton, if_neg (by simp; omega)]; rfl
      have H5 := hide (hH.out.set i hi (hl i + (X.s.ids.take k).count (i : Int) + 1))
      rw [← E1, show ((hl i + (X.s.ids.take k).count (i : Int) + 1 : Nat) : Int) = y + 1 by omega] at H5
      have B5 : Hid (But (Only g) w3 (wr.setCell ⟨g, i, none⟩ (.int .i64 (y + 1)))) := hB.out.cellb _ _
      clear E1 hy hcl hbi Sr hz hzr hB hH hk
      go_wp2
      go_roundw
      case rel => exact ⟨k + 1, by go_num, by omega, B5.out, H5.out⟩
      case measure => simp [intOf]; omega
    · obtain rfl : k = X.s.ids.length := by omega
      have zk : ¬ (X.s.ids.length : Int) < (X.s.ids.length : Int) := by omega
      rw [List.take_length] at hH
      have I4 := hide (And.intro hB.out hH.out)
      clear hk hB hH
      go_wp2
      go_loopw [9] (fun v9 wr => ∃ k : Nat, v9 = .int .i64 (k : Int) ∧ k ≤ X.c.ids.length ∧ Hid (But (Only g) w3 wr) ∧ Hid (HeldAt wr g n (fun i => hl i + X.s.ids.count (i : Int) + (X.c.ids.take k).count (i : Int)))) (fun v9 _ => X.c.ids.length - (intOf v9).toNat)
      case atStart => exact ⟨0, rfl, Nat.zero_le _, I4.out.1, by show HeldAt _ _ _ _; simpa using I4.out.2⟩
      case round =>
        clear I4
        obtain ⟨k, rfl, hk, hB, hH⟩ := hrel
        by_cases hlt : k < X.c.ids.length
        · obtain ⟨sg, rfl, hsg⟩ := HCA.out (by omega)
          have zk : (k : Int) < (X.c.ids.length : Int) := by omega
          have Sr := row_keep C3.out hB.out (fun a ha e => NB.out a (Nat.le_trans GL2.out (World.ownsRow.lt C3.out a ha).1) e)
          have cs := row_cell Sr k hlt
          obtain ⟨z, hz⟩ : ∃ z, X.c.ids[k]? = some z := ⟨_, List.getElem?_eq_getElem hlt⟩
          rw [hz] at cs
          have hzr := RC.out z (List.mem_of_getElem? hz)
          obtain ⟨i, rfl⟩ : ∃ i : Nat, z = i := ⟨z.toNat, by omega⟩
          have hi : i < n := by omega
          have zi : (i : Int) < (n : Int) := by omega
          have cs : wr.cell? ⟨sg, k, none⟩ = some (.int .i64 (i : Int)) := cs
          obtain ⟨y, hy⟩ : ∃ y : Int, y = ((hl i + X.s.ids.count (i : Int) + (X.c.ids.take k).count (i : Int) : Nat) : Int) := ⟨_, rfl⟩
          have hcl : (X.c.ids.take k).count (i : Int) ≤ 15 := Nat.le_trans List.count_le_length (by rw [List.length_take]; omega)
          have hcl2 : X.s.ids.count (i : Int) ≤ 15 := Nat.le_trans List.count_le_length ls
          have hbi := HBD.out i hi
          have zy : y < 4611686018427387904 := by omega
          have zy0 : 0 ≤ y := by omega
          have hc : wr.cell? ⟨g, i, none⟩ = some (.int .i64 y) := by rw [hy]; exact hH.out.cell i hi
          have hf := hH.out.fz i
          have E1 : (fun (j : Nat) => hl j + X.s.ids.count (j : Int) + (X.c.ids.take (k + 1)).count (j : Int)) = upd (fun (j : Nat) => hl j + X.s.ids.count (j : Int) + (X.c.ids.take k).count (j : Int)) i (hl i + X.s.ids.count (i : Int) + (X.c.ids.take k).count (i : Int) + 1) := by
            funext j
            rw [take_snoc hlt, hz, List.count_append]
            show _ + (_ + [(i : Int)].count (j : Int)) = _
            by_cases e : j = i
            · subst e; rw [upd_same, List.count_singleton_self]; omega
            · rw [upd_other _ _ _ _ e, List.count_singleton, if_neg (by simp; omega)]; rfl
          have H5 := hide (hH.out.set i hi (hl i + X.s.ids.count (i : Int) + (X.c.ids.take k).count (i : Int) + 1))
          rw [← E1, show ((hl i + X.s.ids.count (i : Int) + (X.c.ids.take k).count (i : Int) + 1 : Nat) : Int) = y + 1 by omega] at H5
          have B5 : Hid (But (Only g) w3 (wr.setCell ⟨g, i, none⟩ (.int .i64 (y + 1)))) := hB.out.cellb _ _
          clear E1 hy hcl hcl2 hbi Sr hz hzr hB hH hk
          go_wp2
          go_roundw
          case rel => exact ⟨k + 1, by go_num, by omega, B5.out, H5.out⟩
          case measure => simp [intOf]; omega
        · obtain rfl : k = X.c.ids.length := by omega
          have zk2 : ¬ (X.c.ids.length : Int) < (X.c.ids.length : Int) := by omega
          rw [List.take_length] at hH
          have I4 : Hid (But (Only g) w3 wr ∧ ∀ i, i < n → wr.cell? ⟨g, i, none⟩ = some (.int .i64 ((X.B i).refs : Int))) := ⟨hB.out, fun i hi => by rw [HD.out.refs i hi]; exact hH.out.cell i hi⟩
          clear hk hB hH HCA HSA C3 S3 RS RC
          go_wp2
          go_loopw [10] (fun v10 wr => ∃ k : Nat, v10 = .int .i64 (k : Int) ∧ k ≤ n ∧ Hid (But (Only g) w3 wr ∧ ∀ i, i < n → wr.cell? ⟨g, i, none⟩ = some (.int .i64 ((X.B i).refs : Int)))) (fun v10 _ => n - (intOf v10).toNat)
          case atStart => exact ⟨0, rfl, Nat.zero_le _, I4.out⟩
          case round =>
            clear I4
            obtain ⟨k, rfl, hk, hI⟩ := hrel
            by_cases hlt : k < n
            · have zkn : (k : Int) < (n : Int) := by omega
              have Rr := hide (R3.out.but hI.out.1 (fun y e => by have e : y = g := e; rw [e]; exact .inr HG.out) (fun e => by have e : q.d = g := e; have := LT.out; have := HG.out; omega) (fun e => by have e : q.p = g := e; have := LT.out; have := HG.out; omega) (fun e => by have e : q.g = g := e; have := LT.out; have := HG.out; omega) (fun e => by have e : q.r = g := e; have := LT.out; have := HG.out; omega) (fun e => by have e : x = g := e; have := LT.out; have := HG.out; omega))
              have k1 := Rr.out.c1
              have hgl : g < wr.heap.size := World.block_lt_of_cell? wr _ (hI.out.2 k hlt)
              have HGL := hide hgl
              clear hgl
              have FIN : Hid (∀ W, Below wr.heap.size wr W → But (Only g) w3 W ∧ ∀ i, i < n → W.cell? ⟨g, i, none⟩ = some (.int .i64 ((X.B i).refs : Int))) := fun W hb => ⟨hI.out.1.trans (But.of_below hb), fun i hi => (hb.cell (p := ⟨g, i, none⟩) HGL.out).trans (hI.out.2 i hi)⟩
              by_cases hy0 : (X.B k).refs = 0
              · have XE := hide (See_no Rr.out.p.pool (k : Int) (by unfold usd; simp only [Int.toNat_natCast]; exact decide_eq_false (by omega)))
                go_wp2_with fail
                refine XE.out.mono ?_
                rintro _ w5 ⟨rfl, b5⟩
                have b6 : Below wr.heap.size wr (w5.alloc (.cells #[.int .i64 0, .slice none 0 0, .slice none 0 0] 35)) := b5.alloc b5.size _
                have F6 := hide (FIN.out _ b6)
                have cg : (w5.alloc (.cells #[.int .i64 0, .slice none 0 0, .slice none 0 0] 35)).cell? ⟨g, k, none⟩ = some (.int .i64 0) := by have := F6.out.2 k hlt; rw [hy0] at this; exact this
                have cb : (w5.alloc (.cells #[.int .i64 0, .slice none 0 0, .slice none 0 0] 35)).cell? ⟨w5.heap.size, 0, none⟩ = some (.int .i64 0) := by rw [cell_of_row _ w5.heap.size 0 _ 35 (0, 0) (heap_alloc_new w5 _)]; rfl
                clear b5 b6 XE hI Rr k1 hy0
                go_upto_region 20 with fail
                generalize w5.alloc (.cells #[.int .i64 0, .slice none 0 0, .slice none 0 0] 35) = w6 at *
                go_quiet (fail)
                go_wp2
                go_roundw
                case rel => exact ⟨k + 1, by go_num, by omega, ⟨F6.out.1.drewN _, fun i hi => F6.out.2 i hi⟩⟩
                case measure => simp [intOf]; omega
              · have XE := hide (See_yes Rr.out.p.pool k hlt (by omega))
                obtain ⟨y, hy⟩ : ∃ y : Int, y = ((X.B k).refs : Int) := ⟨_, rfl⟩
                have zy0 : 0 < y := by omega
                rw [← hy] at XE
                have HY := hide hy
                go_wp2_with fail
                refine XE.out.mono ?_
                rintro _ w5 ⟨ha, hc, da, dc, rfl, _, b5⟩
                generalize (X.B k).head.length = lh at *
                generalize (X.B k).data.length = ld at *
                have b6 : Below wr.heap.size wr (w5.alloc (.cells #[.int .i64 y, .slice ha lh hc, .slice da ld dc] 35)) := b5.alloc b5.size _
                have F6 := hide (FIN.out _ b6)
                have cg : (w5.alloc (.cells #[.int .i64 y, .slice ha lh hc, .slice da ld dc] 35)).cell? ⟨g, k, none⟩ = some (.int .i64 y) := (F6.out.2 k hlt).trans (by rw [HY.out])
                have cb : (w5.alloc (.cells #[.int .i64 y, .slice ha lh hc, .slice da ld dc] 35)).cell? ⟨w5.heap.size, 0, none⟩ = some (.int .i64 y) := by rw [cell_of_row _ w5.heap.size 0 _ 35 (0, 0) (heap_alloc_new w5 _)]; rfl
                clear b5 b6 XE hI Rr k1 hy0 hy
                go_upto_region 20 with fail
                generalize w5.alloc (.cells #[.int .i64 y, .slice ha lh hc, .slice da ld dc] 35) = w6 at *
                go_quiet (fail)
                go_wp2
                go_roundw
                case rel => exact ⟨k + 1, by go_num, by omega, ⟨F6.out.1.drewN _, fun i hi => F6.out.2 i hi⟩⟩
                case measure => simp [intOf]; omega
            · obtain rfl : k = n := by omega
              have zkn : ¬ (k : Int) < (k : Int) := by omega
              have BF : Hid (Below w.heap.size w wr) := B3.out.trans (hI.out.1.below B3.out.size (fun y hy e => by have e : y = g := e; have := HG.out; omega))
              go_wp2
              go_ret
              exact ⟨rfl, BF.out⟩
end Go.Proofs.Ytjkfjijnjkpbbaa
