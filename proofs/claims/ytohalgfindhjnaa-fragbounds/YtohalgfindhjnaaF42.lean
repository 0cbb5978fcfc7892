
/-
  FragBounds: the walk.
-/
import Derived.Test.YtohalgfindhjnaaF41
import Derived.Test.YtohalgfindhjnaaR3
import Derived.Test.YtohalgfindhjnaaFRowO
namespace Go.Proofs.Ytohalgfindhjnaa
open Go.RowKit Go.Shelf

/-- at the head of the loop -/
structure BdI (w : World) (b gT n i : Nat) (now : Int) (ρ : Nat → Nat × Nat) (G : List (Nat × Gm)) (T : List Bool) (W : World) : Prop where
  fr : FrAt ρ W b G
  ok : OkS (absG G)
  at_ : AtS (absG G)
  si : SiS now (absG G)
  tl : T.length = n
  fu : ∀ k, i ≤ k → k < n → T[k]? = some false
  c : CellsAt W gT 0 (T.map Value.bool)
  f : ∀ y, W.frozen? ⟨gT, y, none⟩ = false
  g : ρ gT = (0, 9) ∧ gT < W.heap.size ∧ w.heap.size ≤ gT
  low : ∀ g, g < w.heap.size → ρ g = (0, 9)
  bel : Below w.heap.size w W
  hb : w.heap.size ≤ b
theorem BdI.later {w : World} {b gT n i : Nat} {now : Int} {ρ : Nat → Nat × Nat} {G : List (Nat × Gm)} {T : List Bool} {W W' : World} (h : BdI w b gT n i now ρ G T W) (hb : Below W.heap.size W W') : BdI w b gT n i now ρ G T W' :=
  ⟨h.fr.later hb, h.ok, h.at_, h.si, h.tl, h.fu, CellsAt.later (W' := W') h.c h.g.2.1 hb, fun y => (hb.frozen (p := ⟨gT, y, none⟩) h.g.2.1).trans (h.f y), ⟨h.g.1, Nat.lt_of_lt_of_le h.g.2.1 hb.size, h.g.2.2⟩, h.low, _root_.Go.Proofs.Ytohalgfindhjnaa.later h.bel hb, h.hb⟩
theorem BdI.wait {w : World} {b gT n i : Nat} {now now' : Int} {ρ : Nat → Nat × Nat} {G : List (Nat × Gm)} {T : List Bool} {W : World} (h : BdI w b gT n i now ρ G T W) (hn : now ≤ now') : BdI w b gT n i now' ρ G T W :=
  ⟨h.fr, h.ok, h.at_, fun m hm => ⟨(h.si m hm).1, Int.le_trans (h.si m hm).2 hn⟩, h.tl, h.fu, h.c, h.f, h.g, h.low, h.bel, h.hb⟩
theorem unt_len (T : List Bool) : ∀ i, (unt i T).length ≤ i
  | 0 => Nat.le_refl _
  | i + 1 => by
    have := unt_len T i
    rw [unt_succ, List.length_append]
    split <;> simp <;> omega
theorem SiS.bd {now : Int} {G : List (Nat × Gm)} (h : SiS now (absG G)) (h2 : now ≤ 1000000000000000) : ∀ p ∈ G, -9223372036854775808 ≤ p.2.since ∧ p.2.since ≤ 9223372036854775807 := fun p hp => by
  have h3 := h _ (abs_mem hp)
  have : (p.2.n).since = p.2.since := rfl
  omega
theorem exec_ixOp {o : Oper} {w : World} {ev : Operand → Value} (x y : Operand) (g off n c k : Nat) (ki : Int) (ho : o.op = .indexAddr 36 x y) (hx : ev x = .slice (some ⟨g, off, none⟩) n c) (hy : ev y = .int .i64 ki) (hki : ki = (k : Int)) (hk : k < n) : (execOp ev o).run Try.prog w = .ok (.value (.pointer (some ⟨g, off + k * 19, none⟩))) w := by
  subst hki
  have h1 : (k : Int) < n := by omega
  unfold execOp
  simp [ho, hx, hy, go_sem, h1, Addr.add_lit]
theorem bfS_len {S : List Gm} (h : OkS S) (h4 : S.length ≤ 4) : (bfS S).length ≤ 1028 := by
  have key : ∀ A : List Gm, (∀ m ∈ A, m.L.length ≤ 257) → (bfS A).length ≤ 257 * A.length := by
    intro A
    induction A with
    | nil => intro _; simp [bfS]
    | cons a A ih =>
      intro hA
      have h1 := ih (fun m hm => hA m (List.mem_cons_of_mem _ hm))
      have h2 := hA a List.mem_cons_self
      show (a.L.map (·.buf) ++ bfS A).length ≤ _
      rw [List.length_append, List.length_map, List.length_cons]
      omega
  have := key S (fun m hm => h.len hm)
  omega
theorem abs_nil {G : List (Nat × Gm)} (h : absG G = []) : G = [] := by
  unfold absG at h
  exact List.map_eq_nil_iff.1 h
set_option maxRecDepth 100000 in
set_option maxHeartbeats 32000000 in
theorem bounds_walk (v : Value) (l : List Op11) (w : World) (hl : IsOps w.heap.size w v l) (hn : l.length ≤ 1172812402926) :
    Calls Try.prog 6 #[v] w fun e w' => e = .returned (.bool true) ∧ Below w.heap.size w w' := by
  obtain ⟨la, lc, rfl, hL, hO⟩ := hl
  obtain ⟨n, hN⟩ : ∃ n, n = l.length := ⟨_, rfl⟩
  rw [← hN] at hn ⊢
  have HL := hide hL
  have HO := hide hO
  have HN := hide hN
  have AW := hide (awake_any w)
  clear hL hO hN
  go_enter Try.func6, Try.ntmps6
  go_wp2_with fail
  refine AW.out.mono ?_
  rintro _ w2 ⟨rfl, b2⟩
  have B2 := hide b2
  clear AW b2
  go_wp2_with fail
  refine (fNew_any w2).mono ?_
  rintro _ w3 ⟨rfl, cN, fN, bN⟩
  obtain ⟨b, hb⟩ : ∃ b, b = w2.heap.size := ⟨_, rfl⟩
  rw [← hb] at cN fN ⊢
  have HB : Hid (w.heap.size ≤ b ∧ b < w3.heap.size) := ⟨by rw [hb]; exact B2.out.size, World.block_lt_of_cell? w3 _ cN⟩
  have B3 := hide (later B2.out bN)
  obtain ⟨w4, hmk, cT, fT, b4, l4⟩ := mkT w3 n (by omega)
  obtain ⟨gT, hgT⟩ : ∃ g, g = w3.heap.size := ⟨_, rfl⟩
  rw [← hgT] at hmk cT fT l4
  have B4 := hide (later B3.out b4)
  have NB : Hid (gT ≠ b) := by have := HB.out.2; unfold Hid; omega
  have HMK := hide hmk
  have I0 : Hid (∃ ρ G T, BdI w b gT n 0 0 ρ G T w4 ∧ (bfS (absG G)).Perm (unt 0 T)) := by
    have hb1 := HB.out
    have f4 : FrAt (fun g => if g = b then (b, 0) else (0, 9)) w4 b [] := (FrAt.new cN fN).later b4
    refine ⟨fun g => if g = b then (b, 0) else (0, 9), [], List.replicate n false, ?_, List.Perm.refl _⟩
    constructor
    · exact f4
    · exact OkS.nil
    · exact fun m hm => by cases hm
    · exact fun m hm => by cases hm
    · exact List.length_replicate
    · intro k _ hk
      rw [List.getElem?_replicate, if_pos hk]
    · rw [List.map_replicate]; exact cT
    · exact fT
    · exact ⟨if_neg (by omega), l4, by have := HB.out; have := B3.out.size; omega⟩
    · exact fun g hg => if_neg (by omega)
    · exact B4.out
    · exact hb1.1
  clear cN fN bN hb B2 hmk cT fT b4 l4 B3 HB B4
  have hgT' := hgT.symm
  clear hgT
  go_wp2_with (refine wpList_runV rfl (exec_mkT _ _ n _ rfl rfl rfl HMK.out) ?_)
  clear HMK
  go_loopw [5, 7] (fun v5 v7 wr => ∃ (i : Nat) (now : Int), v5 = .int .i64 now ∧ v7 = .int .i64 (i : Int) ∧ i ≤ n ∧ 0 ≤ now ∧ now ≤ 39 * (i : Int) ∧ Hid (∃ ρ G T, BdI w b gT n i now ρ G T wr ∧ (bfS (absG G)).Perm (unt i T))) (fun _ v7 _ => n - (intOf v7).toNat)
  case atStart => exact ⟨0, 0, rfl, rfl, Nat.zero_le _, Int.le_refl _, by decide, I0⟩
  case round =>
    obtain ⟨i, now, rfl, rfl, hi, h0, h39, ⟨ρ, G, T, hI, hP⟩⟩ := hrel
    have HI := hide hI
    have HP := hide hP
    clear hI hP I0
    by_cases hin : i < n
    · have zin : (i : Int) < (n : Int) := by omega
      obtain ⟨o, ho⟩ : ∃ o, l[i]? = some o := ⟨_, List.getElem?_eq_getElem (by have := HN.out; omega)⟩
      obtain ⟨g, off, rfl, hg, hc⟩ := HL.out (by have := HN.out; omega)
      have OC : Hid (∀ W, Below w.heap.size w W → ∀ j u, o.cells[j]? = some u → W.cell? ⟨g, off + i * 19 + j, none⟩ = some u) := fun W hW j u hu => (hW.cell (p := ⟨g, off + i * 19 + j, none⟩) hg).trans (hc i o ho j u hu)
      have OO := hide (HO.out o (List.mem_of_getElem? ho))
      have k0 : wr.cell? ⟨g, off + i * 19, none⟩ = some (.bool o.tick) := OC.out wr HI.out.bel 0 _ rfl
      clear hg hc ho
      obtain ⟨tk, htk⟩ : ∃ t, t = o.tick := ⟨_, rfl⟩
      rw [← htk] at k0
      clear htk
      go_upto_if 38 with fail
      go_cut [2, 8, 9, 10, 11] from 28 to 179 (fun v2 v8 v9 v10 v11 wx => ∃ (oa : Option Addr) (oc : Nat) (ρ' : Nat → Nat × Nat) (G' : List (Nat × Gm)) (T' : List Bool) (out : List Int), v8 = .slice oa out.length oc ∧ Hid (BdI w b gT n (i + 1) now ρ' G' T' wx) ∧ Hid ((out ++ bfS (absG G')).Perm (unt (i + 1) T')) ∧ Hid (RowN (fun g => g ≠ gT ∧ ρ' g = ((0, 9) : Nat × Nat) ∧ w.heap.size ≤ g) wx (.slice oa out.length oc) out))
      case first =>
        cases tk with
        | true =>
          have TK := hide (tick_any HI.out.fr now (by omega) (HI.out.si.bd (by omega)))
          go_wp2_with fail
          refine TK.out.mono ?_
          rintro _ w5 ⟨tv, rfl, ρ5, o5, r5, f5, b5⟩
          obtain ⟨ta, tc, rfl⟩ := r5.shape
          have c5 := HI.out.c.but HI.out.g.2.1 b5 NB.out
          have f5' : ∀ y, w5.frozen? ⟨gT, y, none⟩ = false := fun y => (b5.frozen (p := ⟨gT, y, none⟩) HI.out.g.2.1 NB.out).trans (HI.out.f y)
          have ti : T[i]? = some false := HI.out.fu i (Nat.le_refl _) hin
          have k1 : w5.cell? ⟨gT, i, none⟩ = some (.bool false) := by have := c5 i (.bool false) (by rw [List.getElem?_map, ti]; rfl); rw [Nat.zero_add] at this; exact this
          have k2 := f5' i
          obtain ⟨w6, hw6⟩ : ∃ x, x = w5.setCell ⟨gT, i, none⟩ (.bool true) := ⟨_, rfl⟩
          have b6 : But (Only gT) w5 w6 := by rw [hw6]; exact (But.refl (Only gT) w5).cellb (b := gT) rfl i _
          have z0 := HI.out.bel.size
          have z5 := b5.size
          have z6 := b6.size
          have zg := HI.out.g
          have I6 : Hid (BdI w b gT n (i + 1) now ρ5 (G.filter (youngG now)) (T.set i true) w6) := by
            constructor
            · exact f5.but b6 (fun g hg e => by have e : g = gT := e; rw [e, o5 gT zg.2.1]; exact zg.1)
            · rw [abs_young]; exact HI.out.ok.sub List.filter_sublist
            · rw [abs_young]; exact fun m hm => HI.out.at_ m (List.mem_filter.1 hm).1
            · rw [abs_young]; exact fun m hm => HI.out.si m (List.mem_filter.1 hm).1
            · rw [List.length_set]; exact HI.out.tl
            · exact fun k h1 h2 => by rw [List.getElem?_set_ne (by omega)]; exact HI.out.fu k (by omega) h2
            · rw [List.map_set, hw6]; exact c5.set i _
            · intro y; rw [hw6, World.frozen?_setCell]; exact f5' y
            · exact ⟨(o5 gT zg.2.1).trans zg.1, by omega, zg.2.2⟩
            · exact fun g hg => (o5 g (by omega)).trans (HI.out.low g hg)
            · exact (HI.out.bel.trans (b5.below (by omega) (fun g hg e => by have e : g = b := e; have := HI.out.hb; omega))).trans (b6.below (by omega) (fun g hg e => by have e : g = gT := e; omega))
            · exact HI.out.hb
          have P6 : Hid ((gbf (G.filter (oldG now)) ++ bfS (absG (G.filter (youngG now)))).Perm (unt (i + 1) (T.set i true))) := by
            have e : unt (i + 1) (T.set i true) = unt i T := by rw [unt_succ, unt_ge (Nat.le_refl _), List.getElem?_set_self (List.getElem?_eq_some_iff.1 ti).1]; simp
            rw [e, gbf_abs, abs_old, abs_young]
            exact (bfS_filter (oldS now) (absG G)).trans HP.out
          have R6 : Hid (RowN (fun g => g ≠ gT ∧ ρ5 g = ((0, 9) : Nat × Nat) ∧ w.heap.size ≤ g) w6 (.slice ta (gbf (G.filter (oldG now))).length tc) (gbf (G.filter (oldG now)))) :=
            (r5.but b6 (fun g e e2 => by have e2 : g = gT := e2; have := e.1; omega)).own (fun g hg e => ⟨by have := e.1; omega, e.2, by have := e.1; omega⟩)
          have hw6' := hw6.symm
          clear r5 f5 b5 c5 f5' ti hw6 b6 z0 z5 z6 zg TK o5 HI HP
          go_wp2_with fail
          go_meet
          exact ⟨ta, tc, ρ5, _, _, _, rfl, I6, P6, R6⟩
        | false =>
          obtain ⟨ba, bc, hbv⟩ := OO.out.b.shape
          obtain ⟨bn, hbn⟩ : ∃ bn, bn = o.bs.length := ⟨_, rfl⟩
          rw [← hbn] at hbv
          obtain ⟨X, hX⟩ : ∃ X, X = o.p.cells o.hv := ⟨_, rfl⟩
          have LX : Hid (X.length = 16) := by rw [hX]; exact rfl
          have CX : Hid (∀ W, Below w.heap.size w W → CellsAt W g (off + i * 19 + 1) X) := fun W hW j u hu => by
            rw [hX] at hu
            have := OC.out W hW (j + 1) u (by
              have hj : j < (o.p.cells o.hv).length := (List.getElem?_eq_some_iff.1 hu).1
              unfold Op11.cells
              rw [List.getElem?_cons_succ, List.getElem?_append_left hj]
              exact hu)
            rw [show off + i * 19 + 1 + j = off + i * 19 + (j + 1) by omega]
            exact this
          have CV : Hid (∀ W, Below w.heap.size w W → W.cell? ⟨g, off + i * 19 + 17, none⟩ = some (.slice ba bn bc)) := fun W hW => by rw [← hbv]; exact OC.out W hW 17 _ rfl
          have FD := HI.out.fr.later (later_drew wr)
          have HOW : CB (fun g => ρ g = ((0, 9) : Nat × Nat)) wr.drew o.hv o.p.opts := ((OO.out.h.later HI.out.bel).own (fun g _ e => HI.out.low g e)).later (later_drew wr)
          have HDW : CB (fun g => g < w.heap.size) wr.drew (.slice ba bn bc) o.bs := by rw [← hbv]; exact (OO.out.b.later HI.out.bel).later (later_drew wr)
          obtain ⟨rr, hrr⟩ : ∃ rr, rr = putS o.p o.bs i now (absG G) := ⟨_, rfl⟩
          have HRR := hide hrr
          clear hrr
          have SB0 : Below w.heap.size w wr.drew := later HI.out.bel (later_drew wr)
          have ZB := SB0.size
          have PG1 := hide (put_got FD HI.out.ok o.p _ HOW (by have := OO.out.hl; omega) _ _ HDW (by have := OO.out.bl; omega) OO.out.off.1 OO.out.off.2 i now rr HRR.out.symm)
          have PG2 := hide (fun (W1 : World) (h : W1 = wr.drew.alloc (.cells zWh.toArray 49)) => put_got2 FD HI.out.ok o.p _ HOW (by have := OO.out.hl; omega) _ _ HDW (by have := OO.out.bl; omega) OO.out.off.1 OO.out.off.2 i now rr HRR.out.symm h)
          rw [← hX] at PG1 PG2
          clear FD HOW HDW hX hbv hbn
          go_upto_region 14 with fail
          go_cut [9, 10, 11] from 28 to 179 (fun v9 v10 v11 wx => ∃ (s6 : Nat) (ρ' : Nat → Nat × Nat) (G' : List (Nat × Gm)) (ga : Option Addr) (gc : Nat), v9 = .pointer (some ⟨s6, 0, none⟩) ∧ v10 = .bool rr.1.isSome ∧ v11 = .slice ga rr.2.1.length gc ∧ Hid (PutAft wr.drew wx ρ ρ' b G' rr s6 (.slice ga rr.2.1.length gc)))
          case first =>
            refine regionJ (fun _ => true) (fun W => Below w.heap.size w W) (by kernel_rfl) ?_
            have SB : Below w.heap.size w wr.drew := SB0
            refine takeJ (i := 0) (v := .pointer (some ⟨b, 0, none⟩)) 46 rfl rfl (by kernel_rfl) (by kernel_rfl) (by kernel_rfl) (by kernel_rfl) (fun _ _ _ h => h) (.inl ⟨by rfl, fun W hW => exec_move _ _ rfl rfl⟩) (SB) ?_
            try simp only [Act.put, List.setIfInBounds_toArray, List.set_cons_zero, List.set_cons_succ]
            refine takeJ (i := 1) (v := .slice (some ⟨g, off, none⟩) n lc) 47 rfl rfl (by kernel_rfl) (by kernel_rfl) (by kernel_rfl) (by kernel_rfl) (fun _ _ _ h => h) (.inl ⟨by rfl, fun W hW => exec_move _ _ rfl rfl⟩) (SB) ?_
            try simp only [Act.put, List.setIfInBounds_toArray, List.set_cons_zero, List.set_cons_succ]
            refine takeJ (i := 2) (v := .int .i64 (i : Int)) 48 rfl rfl (by kernel_rfl) (by kernel_rfl) (by kernel_rfl) (by kernel_rfl) (fun _ _ _ h => h) (.inl ⟨by rfl, fun W hW => exec_move _ _ rfl rfl⟩) (SB) ?_
            try simp only [Act.put, List.setIfInBounds_toArray, List.set_cons_zero, List.set_cons_succ]
            refine takeJ (i := 3) (v := .pointer (some ⟨g, off + i * 19, none⟩)) 49 rfl rfl (by kernel_rfl) (by kernel_rfl) (by kernel_rfl) (by kernel_rfl) (fun _ _ _ h => h) (.inl ⟨by rfl, fun W hW => exec_ixOp _ _ g off n lc i _ rfl rfl rfl rfl hin⟩) (SB) ?_
            try simp only [Act.put, List.setIfInBounds_toArray, List.set_cons_zero, List.set_cons_succ]
            refine takeJ (i := 4) (v := .pointer (some ⟨g, off + i * 19 + 1, none⟩)) 50 rfl rfl (by kernel_rfl) (by kernel_rfl) (by kernel_rfl) (by kernel_rfl) (fun _ _ _ h => h) (.inl ⟨by rfl, fun W hW => exec_fieldO 44 _ 1 g (off + i * 19) (off + i * 19 + 1) rfl rfl (fun w => by kernel_rfl)⟩) (SB) ?_
            try simp only [Act.put, List.setIfInBounds_toArray, List.set_cons_zero, List.set_cons_succ]
            refine takeJ (i := 5) (v := .agg X.toArray) 51 rfl rfl (by kernel_rfl) (by kernel_rfl) (by kernel_rfl) (by kernel_rfl) (fun _ _ _ h => h) (.inl ⟨by rfl, fun W hW => exec_loadA 26 16 aggP sizP _ rfl g (off + i * 19 + 1) rfl X LX.out (CX.out W hW)⟩) (SB) ?_
            try simp only [Act.put, List.setIfInBounds_toArray, List.set_cons_zero, List.set_cons_succ]
            refine takeJ (i := 6) (v := .slice (some ⟨g, off, none⟩) n lc) 52 rfl rfl (by kernel_rfl) (by kernel_rfl) (by kernel_rfl) (by kernel_rfl) (fun _ _ _ h => h) (.inl ⟨by rfl, fun W hW => exec_move _ _ rfl rfl⟩) (SB) ?_
            try simp only [Act.put, List.setIfInBounds_toArray, List.set_cons_zero, List.set_cons_succ]
            refine takeJ (i := 7) (v := .int .i64 (i : Int)) 53 rfl rfl (by kernel_rfl) (by kernel_rfl) (by kernel_rfl) (by kernel_rfl) (fun _ _ _ h => h) (.inl ⟨by rfl, fun W hW => exec_move _ _ rfl rfl⟩) (SB) ?_
            try simp only [Act.put, List.setIfInBounds_toArray, List.set_cons_zero, List.set_cons_succ]
            refine takeJ (i := 8) (v := .pointer (some ⟨g, off + i * 19, none⟩)) 54 rfl rfl (by kernel_rfl) (by kernel_rfl) (by kernel_rfl) (by kernel_rfl) (fun _ _ _ h => h) (.inl ⟨by rfl, fun W hW => exec_ixOp _ _ g off n lc i _ rfl rfl rfl rfl hin⟩) (SB) ?_
            try simp only [Act.put, List.setIfInBounds_toArray, List.set_cons_zero, List.set_cons_succ]
            refine takeJ (i := 9) (v := .pointer (some ⟨g, off + i * 19 + 17, none⟩)) 55 rfl rfl (by kernel_rfl) (by kernel_rfl) (by kernel_rfl) (by kernel_rfl) (fun _ _ _ h => h) (.inl ⟨by rfl, fun W hW => exec_fieldO 44 _ 2 g (off + i * 19) (off + i * 19 + 17) rfl rfl (fun w => by kernel_rfl)⟩) (SB) ?_
            try simp only [Act.put, List.setIfInBounds_toArray, List.set_cons_zero, List.set_cons_succ]
            refine takeJ (i := 10) (v := .slice ba bn bc) 56 rfl rfl (by kernel_rfl) (by kernel_rfl) (by kernel_rfl) (by kernel_rfl) (fun _ _ _ h => h) (.inl ⟨by rfl, fun W hW => exec_load1 24 oneS _ rfl g (off + i * 19 + 17) rfl (.slice ba bn bc) (CV.out W hW)⟩) (SB) ?_
            try simp only [Act.put, List.setIfInBounds_toArray, List.set_cons_zero, List.set_cons_succ]
            refine takeJ (i := 11) (v := .int .i64 (i : Int)) 57 rfl rfl (by kernel_rfl) (by kernel_rfl) (by kernel_rfl) (by kernel_rfl) (fun _ _ _ h => h) (.inl ⟨by rfl, fun W hW => exec_move _ _ rfl rfl⟩) (SB) ?_
            try simp only [Act.put, List.setIfInBounds_toArray, List.set_cons_zero, List.set_cons_succ]
            refine takeJ (i := 12) (v := .int .i64 now) 58 rfl rfl (by kernel_rfl) (by kernel_rfl) (by kernel_rfl) (by kernel_rfl) (fun _ _ _ h => h) (.inl ⟨by rfl, fun W hW => exec_move _ _ rfl rfl⟩) (SB) ?_
            try simp only [Act.put, List.setIfInBounds_toArray, List.set_cons_zero, List.set_cons_succ]
            refine allJ (rs := [13, 18]) (by kernel_rfl) (by simp) (fun q hq => ?_)
            rcases List.mem_cons.1 hq with rfl | hq
            · refine opJ_call 13 59 rfl rfl (by rfl) 17 #[.pointer (some ⟨b, 0, none⟩), .agg X.toArray, .slice ba bn bc, .int .i64 (i : Int), .int .i64 now] (exec_callF _ _ _ _ rfl (map5 rfl rfl rfl rfl rfl) (enters_of Try.func17 (by kernel_rfl) rfl)) _ (PG1.out) ?_
              rintro _ w8 ⟨_, G', hv, dv, bv, ga, gc, rfl, PG⟩
              have S8 : Below w.heap.size w w8 := SB.trans (PG.but.below ZB (fun g hg e => e.1 (HI.out.low g hg)))
              refine ⟨fun _ => S8, ?_⟩
              simp only [Act.put, List.setIfInBounds_toArray, List.set_cons_zero, List.set_cons_succ]
              refine takeJ (i := 14) (v := .tuple #[.agg (whC (outP rr.1) hv dv bv).toArray, .bool rr.1.isSome, .slice ga rr.2.1.length gc]) 45 rfl rfl (by kernel_rfl) (by kernel_rfl) (by kernel_rfl) (by kernel_rfl) (fun _ _ _ h => h) (.inl ⟨by rfl, fun W hW => exec_move _ _ rfl rfl⟩) (S8) ?_
              try simp only [Act.put, List.setIfInBounds_toArray, List.set_cons_zero, List.set_cons_succ]
              refine takeJ (i := 15) (v := .agg (whC (outP rr.1) hv dv bv).toArray) 60 rfl rfl (by kernel_rfl) (by kernel_rfl) (by kernel_rfl) (by kernel_rfl) (fun _ _ _ h => h) (.inl ⟨by rfl, fun W hW => exec_ext _ 0 [.agg (whC (outP rr.1) hv dv bv).toArray, .bool rr.1.isSome, .slice ga rr.2.1.length gc] _ rfl rfl rfl⟩) (S8) ?_
              try simp only [Act.put, List.setIfInBounds_toArray, List.set_cons_zero, List.set_cons_succ]
              refine takeJ (i := 16) (v := .bool rr.1.isSome) 61 rfl rfl (by kernel_rfl) (by kernel_rfl) (by kernel_rfl) (by kernel_rfl) (fun _ _ _ h => h) (.inl ⟨by rfl, fun W hW => exec_ext _ 1 [.agg (whC (outP rr.1) hv dv bv).toArray, .bool rr.1.isSome, .slice ga rr.2.1.length gc] _ rfl rfl rfl⟩) (S8) ?_
              try simp only [Act.put, List.setIfInBounds_toArray, List.set_cons_zero, List.set_cons_succ]
              refine takeJ (i := 17) (v := .slice ga rr.2.1.length gc) 62 rfl rfl (by kernel_rfl) (by kernel_rfl) (by kernel_rfl) (by kernel_rfl) (fun _ _ _ h => h) (.inl ⟨by rfl, fun W hW => exec_ext _ 2 [.agg (whC (outP rr.1) hv dv bv).toArray, .bool rr.1.isSome, .slice ga rr.2.1.length gc] _ rfl rfl rfl⟩) (S8) ?_
              try simp only [Act.put, List.setIfInBounds_toArray, List.set_cons_zero, List.set_cons_succ]
              obtain ⟨w9, wz, ρ2, hw9, c9, f9, hwz, AF⟩ := PG.aft
              have HW9 := hide hw9
              have HWZ := hide hwz
              have one9 := PG.one
              obtain ⟨s6, hs6⟩ : ∃ s6, s6 = w8.heap.size := ⟨_, rfl⟩
              rw [← hs6] at c9 f9 hwz AF HWZ
              have S9 : Below w.heap.size w w9 := later S8 (by rw [HW9.out]; exact later_alloc _ _)
              have SZ : Below w.heap.size w wz := SB.trans (AF.but.below ZB (fun g hg e => e.1 (HI.out.low g hg)))
              refine nextJ (w' := w9) 18 9 (.pointer (some ⟨s6, 0, none⟩)) (by kernel_rfl) rfl rfl (by rfl) ((by rw [HW9.out, hs6]; exact exec_allocWh rfl)) (S9) ?_
              try simp only [Act.put, List.setIfInBounds_toArray, List.set_cons_zero, List.set_cons_succ]
              refine storeJ (w' := wz) 19 (by kernel_rfl) rfl rfl (by rfl) ((by rw [HWZ.out]; exact exec_storeA 49 18 sizWh _ _ rfl s6 0 rfl _ zWh rfl rfl rfl c9 f9 one9)) ((fun _ => SZ)) ?_
              try simp only [Act.put, List.setIfInBounds_toArray, List.set_cons_zero, List.set_cons_succ]
              refine takeJ (i := 20) (v := .bool rr.1.isSome) 10 rfl rfl (by kernel_rfl) (by kernel_rfl) (by kernel_rfl) (by kernel_rfl) (fun _ _ _ h => h) (.inl ⟨by rfl, fun W hW => exec_assign _ _ rfl rfl⟩) (SZ) ?_
              try simp only [Act.put, List.setIfInBounds_toArray, List.set_cons_zero, List.set_cons_succ]
              refine takeJ (i := 21) (v := .slice ga rr.2.1.length gc) 11 rfl rfl (by kernel_rfl) (by kernel_rfl) (by kernel_rfl) (by kernel_rfl) (fun _ _ _ h => h) (.inl ⟨by rfl, fun W hW => exec_assign _ _ rfl rfl⟩) (SZ) ?_
              try simp only [Act.put, List.setIfInBounds_toArray, List.set_cons_zero, List.set_cons_succ]
              refine doneJ (by kernel_rfl) ?_ _
              have AFH := hide AF
              clear AF PG S8 S9 SZ hw9 c9 f9 hwz HW9 HWZ one9 hs6
              go_wp2
              go_meet
              exact ⟨s6, _, G', ga, gc, rfl, rfl, rfl, AFH⟩
            · obtain rfl : q = 18 := by simpa using hq
              obtain ⟨w7, hw7⟩ : ∃ w7, w7 = wr.drew.alloc (.cells zWh.toArray 49) := ⟨_, rfl⟩
              have HW7 := hide hw7
              refine opJ_val (w' := w7) 18 9 (.pointer (some ⟨wr.drew.heap.size, 0, none⟩)) rfl rfl (by rfl) (by rw [HW7.out]; exact exec_allocWh rfl) ?_
              have S7 : Below w.heap.size w w7 := later SB (by rw [HW7.out]; exact later_alloc _ _)
              refine ⟨fun _ => S7, ?_⟩
              simp only [Act.put, List.setIfInBounds_toArray, List.set_cons_zero, List.set_cons_succ]
              refine callJ 13 59 (by kernel_rfl) rfl rfl (by rfl) 17 #[.pointer (some ⟨b, 0, none⟩), .agg X.toArray, .slice ba bn bc, .int .i64 (i : Int), .int .i64 now] (exec_callF _ _ _ _ rfl (map5 rfl rfl rfl rfl rfl) (enters_of Try.func17 (by kernel_rfl) rfl)) _ (PG2.out w7 HW7.out) ?_
              rintro _ w8 ⟨ρ2, G', hv, dv, bv, ga, gc, rfl, PG⟩
              have S8 : Below w.heap.size w w8 := S7.trans (PG.but.below S7.size (fun g hg e => e.1 (by rw [cutR_lt (by omega)]; exact HI.out.low g hg)))
              refine ⟨S8, ?_⟩
              simp only [Act.put, List.setIfInBounds_toArray, List.set_cons_zero, List.set_cons_succ]
              refine takeJ (i := 14) (v := .tuple #[.agg (whC (outP rr.1) hv dv bv).toArray, .bool rr.1.isSome, .slice ga rr.2.1.length gc]) 45 rfl rfl (by kernel_rfl) (by kernel_rfl) (by kernel_rfl) (by kernel_rfl) (fun _ _ _ h => h) (.inl ⟨by rfl, fun W hW => exec_move _ _ rfl rfl⟩) (S8) ?_
              try simp only [Act.put, List.setIfInBounds_toArray, List.set_cons_zero, List.set_cons_succ]
              refine takeJ (i := 15) (v := .agg (whC (outP rr.1) hv dv bv).toArray) 60 rfl rfl (by kernel_rfl) (by kernel_rfl) (by kernel_rfl) (by kernel_rfl) (fun _ _ _ h => h) (.inl ⟨by rfl, fun W hW => exec_ext _ 0 [.agg (whC (outP rr.1) hv dv bv).toArray, .bool rr.1.isSome, .slice ga rr.2.1.length gc] _ rfl rfl rfl⟩) (S8) ?_
              try simp only [Act.put, List.setIfInBounds_toArray, List.set_cons_zero, List.set_cons_succ]
              refine takeJ (i := 16) (v := .bool rr.1.isSome) 61 rfl rfl (by kernel_rfl) (by kernel_rfl) (by kernel_rfl) (by kernel_rfl) (fun _ _ _ h => h) (.inl ⟨by rfl, fun W hW => exec_ext _ 1 [.agg (whC (outP rr.1) hv dv bv).toArray, .bool rr.1.isSome, .slice ga rr.2.1.length gc] _ rfl rfl rfl⟩) (S8) ?_
              try simp only [Act.put, List.setIfInBounds_toArray, List.set_cons_zero, List.set_cons_succ]
              refine takeJ (i := 17) (v := .slice ga rr.2.1.length gc) 62 rfl rfl (by kernel_rfl) (by kernel_rfl) (by kernel_rfl) (by kernel_rfl) (fun _ _ _ h => h) (.inl ⟨by rfl, fun W hW => exec_ext _ 2 [.agg (whC (outP rr.1) hv dv bv).toArray, .bool rr.1.isSome, .slice ga rr.2.1.length gc] _ rfl rfl rfl⟩) (S8) ?_
              try simp only [Act.put, List.setIfInBounds_toArray, List.set_cons_zero, List.set_cons_succ]
              obtain ⟨c9, f9, wz, hwz, AF⟩ := PG.aft2 HW7.out
              have HWZ := hide hwz
              have one9 := PG.one
              have SZ : Below w.heap.size w wz := SB.trans (AF.but.below ZB (fun g hg e => e.1 (HI.out.low g hg)))
              refine storeJ (w' := wz) 19 (by kernel_rfl) rfl rfl (by rfl) ((by rw [HWZ.out]; exact exec_storeA 49 18 sizWh _ _ rfl wr.drew.heap.size 0 rfl _ zWh rfl rfl rfl c9 f9 one9)) ((fun _ => SZ)) ?_
              try simp only [Act.put, List.setIfInBounds_toArray, List.set_cons_zero, List.set_cons_succ]
              refine takeJ (i := 20) (v := .bool rr.1.isSome) 10 rfl rfl (by kernel_rfl) (by kernel_rfl) (by kernel_rfl) (by kernel_rfl) (fun _ _ _ h => h) (.inl ⟨by rfl, fun W hW => exec_assign _ _ rfl rfl⟩) (SZ) ?_
              try simp only [Act.put, List.setIfInBounds_toArray, List.set_cons_zero, List.set_cons_succ]
              refine takeJ (i := 21) (v := .slice ga rr.2.1.length gc) 11 rfl rfl (by kernel_rfl) (by kernel_rfl) (by kernel_rfl) (by kernel_rfl) (fun _ _ _ h => h) (.inl ⟨by rfl, fun W hW => exec_assign _ _ rfl rfl⟩) (SZ) ?_
              try simp only [Act.put, List.setIfInBounds_toArray, List.set_cons_zero, List.set_cons_succ]
              refine doneJ (by kernel_rfl) ?_ _
              have AFH := hide AF
              clear AF PG S7 S8 SZ hw7 HW7 c9 f9 hwz HWZ one9
              go_wp2
              go_meet
              exact ⟨_, _, G', ga, gc, rfl, rfl, rfl, AFH⟩
          obtain ⟨s6, ρ6, G6, ga, gc, rfl, rfl, rfl, AFH⟩ := hcut
          obtain ⟨w6, hw6⟩ : ∃ w9, w9 = wc := ⟨_, rfl⟩
          rw [← hw6] at AFH ⊢
          clear hw6 PG1 PG2 LX CX CV
          have AF := AFH.out
          obtain ⟨hv, dv, bv, τ, t0, x1, x2, x3, x4, x5⟩ := AF.x
          obtain ⟨bva, bvc, rfl⟩ := x3.shape
          have ti : T[i]? = some false := HI.out.fu i (Nat.le_refl _) hin
          have PP : (outB rr.1 ++ (rr.2.1 ++ bfS (absG G6))).Perm (unt (i + 1) T) := by
            have h1 := putS_perm HI.out.ok HI.out.at_ o.p o.bs (i : Int) now
            rw [← HRR.out, ← AF.ab] at h1
            rw [unt_succ, ti]
            exact h1.trans (HP.out.append_right _)
          have LB : rr.2.1.length + (outB rr.1).length ≤ 1029 := by
            have h1 := putS_perm HI.out.ok HI.out.at_ o.p o.bs (i : Int) now
            rw [← HRR.out] at h1
            have h2 := h1.length_eq
            have h4 : (absG G).length ≤ 4 := by unfold absG; rw [List.length_map]; exact HI.out.fr.len
            have h3 := bfS_len HI.out.ok h4
            simp only [List.length_append, List.length_cons, List.length_nil] at h2
            omega
          have IS : rr.1.isSome = decide ((outB rr.1).length ≠ 0) := by rw [HRR.out]; exact putS_is o.p o.bs (i : Int) now (absG G)
          have l6 : s6 < w6.heap.size := x1.lt (by rw [whC_len]; decide)
          obtain ⟨a1, c1, w7, hrun1, r1, b1⟩ := appI_run (RowN.nil (fun _ => False) w6) x4.cn (by rw [List.length_nil]; omega)
          rw [List.length_nil, Nat.zero_add, List.nil_append] at r1
          rw [List.length_nil, Nat.zero_add] at hrun1
          have x3' := x3.but b1 (fun g _ e => e)
          obtain ⟨a2, c2, w8, hrun2, r2, b2⟩ := appI_run r1 x3'.cn (by omega)
          have z7 := b1.size
          have z8 := b2.size
          have B67 : Below w6.heap.size w6 w7 := b1.below (Nat.le_refl _) (fun g hg e => e)
          have B68 : Below w6.heap.size w6 w8 := B67.trans (b2.below (by omega) (fun g hg e => by rcases e with e | e <;> omega))
          have kb : w6.cell? ⟨s6, 17, none⟩ = some (.slice bva (outB rr.1).length bvc) := x1 17 _ rfl
          have kb7 : w7.cell? ⟨s6, 17, none⟩ = some (.slice bva (outB rr.1).length bvc) := (B67.cell (p := ⟨s6, 17, none⟩) l6).trans kb
          have kb8 : w8.cell? ⟨s6, 17, none⟩ = some (.slice bva (outB rr.1).length bvc) := (B68.cell (p := ⟨s6, 17, none⟩) l6).trans kb
          have zg := HI.out.g
          have zw := HI.out.bel.size
          have zd := (later_drew wr).size
          have zf := AF.but.size
          have old6 : ∀ g, g < wr.heap.size → ρ6 g = ρ g := fun g hg => AF.old g (by omega)
          have I8 : Hid (BdI w b gT n (i + 1) now (cutR ρ6 w6.heap.size) G6 T w8) := by
            constructor
            · exact AF.fr.cut.later B68
            · rw [AF.ab, HRR.out]; exact HI.out.ok.put _ _ _ _
            · rw [AF.ab, HRR.out]; exact HI.out.at_.put _ _ _ _
            · rw [AF.ab, HRR.out]; exact HI.out.si.put h0 _ _ _
            · exact HI.out.tl
            · exact fun k h1 h2 => HI.out.fu k (by omega) h2
            · exact CellsAt.later (W' := w8) ((CellsAt.later (W' := wr.drew) HI.out.c zg.2.1 (later_drew wr)).but (by omega) AF.but (fun e => e.1 zg.1)) (by omega) B68
            · exact fun y => (B68.frozen (p := ⟨gT, y, none⟩) (by show gT < _; omega)).trans ((AF.but.frozen (p := ⟨gT, y, none⟩) (by show gT < _; omega) (fun e => e.1 zg.1)).trans (((later_drew wr).frozen (p := ⟨gT, y, none⟩) zg.2.1).trans (HI.out.f y)))
            · exact ⟨by rw [cutR_lt (by omega), old6 gT zg.2.1]; exact zg.1, by omega, zg.2.2⟩
            · exact fun g hg => by rw [cutR_lt (by omega), old6 g (by omega)]; exact HI.out.low g hg
            · exact later (SB0.trans (AF.but.below ZB (fun g hg e => e.1 (HI.out.low g hg)))) B68
            · exact HI.out.hb
          obtain ⟨out, hout⟩ : ∃ L, L = rr.2.1 ++ outB rr.1 := ⟨_, rfl⟩
          have P8 : Hid ((out ++ bfS (absG G6)).Perm (unt (i + 1) T)) := by
            rw [hout]
            refine List.Perm.trans ?_ PP
            rw [← List.append_assoc]
            exact List.perm_append_comm.append_right _
          obtain ⟨on, hon⟩ : ∃ on, on = rr.2.1.length + (outB rr.1).length := ⟨_, rfl⟩
          rw [← hon, ← hout] at r2
          rw [← hon] at hrun2
          have ON : Hid (on = out.length) := by unfold Hid; rw [hout, List.length_append, hon]
          have R8 : Hid (RowN (fun g => g ≠ gT ∧ (cutR ρ6 w6.heap.size) g = ((0, 9) : Nat × Nat) ∧ w.heap.size ≤ g) w8 (.slice a2 on c2) out) :=
            r2.own (fun g hg e => by
              have hge : w6.heap.size ≤ g := by rcases e with (e | e) | e <;> first | exact e.elim | omega
              have g1 := zg.2.1
              have g2 := zg.2.2
              exact ⟨by omega, cutR_ge hge, by omega⟩)
          obtain ⟨kn, hkn⟩ : ∃ kn, kn = (outB rr.1).length := ⟨_, rfl⟩
          obtain ⟨gn, hgn⟩ : ∃ gn, gn = rr.2.1.length := ⟨_, rfl⟩
          obtain ⟨iS, hiS⟩ : ∃ q, q = rr.1.isSome := ⟨_, rfl⟩
          rw [← hkn, ← hiS] at IS
          rw [← hkn] at kb kb7 kb8 hrun2
          rw [← hgn] at hrun1 hrun2 ⊢
          rw [← hiS]
          clear hkn hgn hiS hon hout AF AFH t0 x1 x2 x3 x3' x4 x5 ti PP LB l6 r1 r2 b1 b2 z7 z8 B67 B68 zg zw zd zf old6 HI HP HRR SB0 ZB
          have RUN1 := hide hrun1
          have RUN2 := hide hrun2
          clear hrun1 hrun2
          by_cases hk0 : kn = 0
          · subst hk0
            have hiS : iS = false := by rw [IS]; rfl
            subst hiS
            clear IS
            go_wp2_with (at_builtin; first | refine wpList_appJ rfl _ _ rfl rfl _ _ rfl rfl RUN1.out ?_ | refine wpList_appJ rfl _ _ rfl rfl _ _ rfl rfl RUN2.out ?_)
            go_meet
            exact ⟨a2, c2, _, G6, T, out, by rw [ON.out], I8, P8, by rw [← ON.out]; exact R8⟩
          · have hiS : iS = true := by rw [IS]; exact decide_eq_true hk0
            subst hiS
            have zk : ¬ (kn : Int) = 0 := by omega
            clear IS
            go_wp2_with (at_builtin; first | refine wpList_appJ rfl _ _ rfl rfl _ _ rfl rfl RUN1.out ?_ | refine wpList_appJ rfl _ _ rfl rfl _ _ rfl rfl RUN2.out ?_)
            go_meet
            exact ⟨a2, c2, _, G6, T, out, by rw [ON.out], I8, P8, by rw [← ON.out]; exact R8⟩
      obtain ⟨oa, oc, ρ', G', T', out, rfl, hI', hP', hR'⟩ := hcut
      obtain ⟨on, hon⟩ : ∃ on, on = out.length := ⟨_, rfl⟩
      rw [← hon] at hR' ⊢
      have ON := hide hon
      have onb : on ≤ 1172812402926 := by
        have h1 := hP'.out.length_eq
        have h2 := unt_len T' (i + 1)
        rw [List.length_append] at h1
        omega
      clear hon HI HP k0
      go_wp2_with fail
      go_loopw [12] (fun v12 wq => ∃ (k : Nat) (T2 : List Bool), v12 = .int .i64 (k : Int) ∧ k ≤ on ∧ Hid (BdI w b gT n (i + 1) now ρ' G' T2 wq) ∧ Hid ((out.drop k ++ bfS (absG G')).Perm (unt (i + 1) T2)) ∧ Hid (RowN (fun g => g ≠ gT ∧ ρ' g = ((0, 9) : Nat × Nat) ∧ w.heap.size ≤ g) wq (.slice oa on oc) out)) (fun v12 _ => on - (intOf v12).toNat)
      case atStart => exact ⟨0, T', rfl, Nat.zero_le _, hI', hP', hR'⟩
      case round =>
        obtain ⟨k, T2, rfl, hk, hI2, hP2, hR2⟩ := hrel
        by_cases hko : k < on
        · have zko : (k : Int) < (on : Int) := by omega
          have dk : out.drop k = (out[k]'(by have := ON.out; omega)) :: out.drop (k + 1) := List.drop_eq_getElem_cons _
          obtain ⟨x, hx⟩ : ∃ x, x = out[k]'(by have := ON.out; omega) := ⟨_, rfl⟩
          have hP3 := hP2.out
          rw [dk, ← hx, List.cons_append] at hP3
          obtain ⟨j, rfl, hj, hT, hP4⟩ := told_step hP3
          obtain ⟨g2, off2, rfl, hg2, og2, hc2⟩ := hR2.out.at (by have := ON.out; omega)
          have kx : wr.cell? ⟨g2, off2 + k, none⟩ = some (.int .i64 (j : Int)) := by
            refine hc2 k _ ?_
            rw [List.getElem?_eq_getElem (by have := ON.out; omega), ← hx]
          have jn : j < n := by omega
          have kt : wr.cell? ⟨gT, j, none⟩ = some (.bool false) := by
            have := hI2.out.c j (.bool false) (by rw [List.getElem?_map, hT]; rfl)
            rw [Nat.zero_add] at this
            exact this
          have kf := hI2.out.f j
          have zj0 : ¬ (j : Int) < 0 := by omega
          have zji : ¬ (i : Int) < (j : Int) := by omega
          obtain ⟨w9, hw9⟩ : ∃ x, x = wr.setCell ⟨gT, j, none⟩ (.bool true) := ⟨_, rfl⟩
          have b9 : But (Only gT) wr w9 := by rw [hw9]; exact (But.refl (Only gT) wr).cellb (b := gT) rfl j _
          have zg := hI2.out.g
          have z9 := b9.size
          have zb := hI2.out.bel.size
          have I9 : Hid (BdI w b gT n (i + 1) now ρ' G' (T2.set j true) w9) := by
            constructor
            · exact hI2.out.fr.but b9 (fun g hg e => by have e : g = gT := e; rw [e]; exact zg.1)
            · exact hI2.out.ok
            · exact hI2.out.at_
            · exact hI2.out.si
            · rw [List.length_set]; exact hI2.out.tl
            · exact fun k h1 h2 => by rw [List.getElem?_set_ne (by omega)]; exact hI2.out.fu k h1 h2
            · rw [List.map_set, hw9]; exact hI2.out.c.set j _
            · intro y; rw [hw9, World.frozen?_setCell]; exact hI2.out.f y
            · have z1 := zg.2.1
              exact ⟨zg.1, by omega, zg.2.2⟩
            · exact hI2.out.low
            · have z2 := zg.2.2
              exact hI2.out.bel.trans (b9.below (by omega) (fun g hg e => by have e : g = gT := e; omega))
            · exact hI2.out.hb
          have R9 : Hid (RowN (fun g => g ≠ gT ∧ ρ' g = ((0, 9) : Nat × Nat) ∧ w.heap.size ≤ g) w9 (.slice (some ⟨g2, off2, none⟩) on oc) out) := hR2.out.but b9 (fun g e e2 => e.1 e2)
          have P9 := hide hP4
          have hw9' := hw9.symm
          clear hP2 hP3 hP4 hI2 hR2 hc2 hg2 og2 hx dk hT hw9 b9 zg z9 zb hP' hI' hR'
          go_wp2_with fail
          go_roundw
          case rel => exact ⟨k + 1, T2.set j true, by go_num, by omega, I9, P9, R9⟩
          case measure => simp [intOf]; omega
        · have ek : k = on := by omega
          have hP5 : Hid ((bfS (absG G')).Perm (unt (i + 1) T2)) := by
            have := hP2.out
            rw [List.drop_eq_nil_of_le (by have := ON.out; omega), List.nil_append] at this
            exact this
          have zko : ¬ (k : Int) < (on : Int) := by omega
          have BF := hide (fBufs_any hI2.out.fr)
          clear hP2 hR2 hP' hI' hR' ek
          go_wp2_with fail
          refine BF.out.mono ?_
          rintro _ wF ⟨hv, rfl, hrow, bF⟩
          obtain ⟨ha, hc, rfl⟩ := hrow.shape
          obtain ⟨H, hH⟩ : ∃ H, H = gbf G' := ⟨_, rfl⟩
          obtain ⟨hn2, hhn⟩ : ∃ h, h = (gbf G').length := ⟨_, rfl⟩
          have PH : Hid (H.Perm (unt (i + 1) T2)) := by rw [hH, gbf_abs]; exact hP5.out
          rw [← hhn] at hrow ⊢
          rw [← hH] at hrow hhn
          have hnb : hn2 ≤ 1172812402926 := by
            have h1 := PH.out.length_eq
            have h2 := unt_len T2 (i + 1)
            omega
          have HN2 := hide hhn
          have IF := hide (hI2.out.later bF)
          have RF := hide hrow
          clear hH hhn hrow bF hI2 BF
          go_wp2_with fail
          go_loopw [14] (fun v14 wq => ∃ (k : Nat), v14 = .int .i64 (k : Int) ∧ k ≤ hn2 ∧ Hid (Below wF.heap.size wF wq)) (fun v14 _ => hn2 - (intOf v14).toNat)
          case atStart => exact ⟨0, rfl, Nat.zero_le _, Below.refl _ _⟩
          case round =>
            obtain ⟨k3, rfl, hk3, hB3⟩ := hrel
            have I3 := hide (IF.out.later hB3.out)
            by_cases hkh : k3 < hn2
            · have zkh : (k3 : Int) < (hn2 : Int) := by omega
              obtain ⟨x, hx⟩ : ∃ x, H[k3]? = some x := ⟨_, List.getElem?_eq_getElem (by have := HN2.out; omega)⟩
              obtain ⟨j, rfl, hj, hT⟩ := unt_mem (PH.out.mem_iff.1 (List.mem_of_getElem? hx))
              obtain ⟨g2, off2, rfl, _, _, hc2⟩ := (RF.out.later hB3.out).at (by have := HN2.out; omega)
              have kx : wr.cell? ⟨g2, off2 + k3, none⟩ = some (.int .i64 (j : Int)) := hc2 k3 _ hx
              have jn : j < n := by omega
              have kt : wr.cell? ⟨gT, j, none⟩ = some (.bool false) := by
                have := I3.out.c j (.bool false) (by rw [List.getElem?_map, hT]; rfl)
                rw [Nat.zero_add] at this
                exact this
              have zj0 : ¬ (j : Int) < 0 := by omega
              have zji : ¬ (i : Int) < (j : Int) := by omega
              clear hx hT hc2 I3
              go_wp2_with fail
              go_roundw
              case rel => exact ⟨k3 + 1, by go_num, by omega, hB3⟩
              case measure => simp [intOf]; omega
            · have zkh : ¬ (k3 : Int) < (hn2 : Int) := by omega
              obtain ⟨wG, hwG⟩ : ∃ x, x = wr := ⟨_, rfl⟩
              rw [← hwG] at hB3 I3 ⊢
              clear hwG
              go_wp2_with fail
              go_loopw [15, 16] (fun v15 v16 wq => ∃ (k : Nat) (m : Nat), v16 = .int .i64 (k : Int) ∧ v15 = .int .i64 (m : Int) ∧ k ≤ i + 1 ∧ m ≤ k ∧ Hid (m = (unt k T2).length) ∧ Hid (Below wG.heap.size wG wq)) (fun _ v16 _ => i + 1 - (intOf v16).toNat)
              case atStart => exact ⟨0, 0, rfl, rfl, Nat.zero_le _, Nat.le_refl _, rfl, Below.refl _ _⟩
              case round =>
                obtain ⟨k4, m4, rfl, rfl, hk4, hm4, hM, hB4⟩ := hrel
                by_cases hki : k4 ≤ i
                · have zki : (k4 : Int) ≤ (i : Int) := by omega
                  have kn4 : k4 < n := by omega
                  obtain ⟨q, hq⟩ : ∃ q, T2[k4]? = some q := ⟨_, List.getElem?_eq_getElem (by have := IF.out.tl; omega)⟩
                  have kt : wr.cell? ⟨gT, k4, none⟩ = some (.bool q) := by
                    have := (I3.out.later hB4.out).c k4 (.bool q) (by rw [List.getElem?_map, hq]; rfl)
                    rw [Nat.zero_add] at this
                    exact this
                  have us := unt_succ k4 T2
                  rw [hq] at us
                  cases q with
                  | true =>
                    have M4 : Hid (m4 = (unt (k4 + 1) T2).length) := by unfold Hid; rw [us, hM.out]; simp
                    clear us hq
                    go_wp2_with fail
                    go_roundw
                    case rel => exact ⟨k4 + 1, m4, by go_num, rfl, by omega, by omega, M4, hB4⟩
                    case measure => simp [intOf]; omega
                  | false =>
                    have M4 : Hid (m4 + 1 = (unt (k4 + 1) T2).length) := by unfold Hid; rw [us, hM.out]; simp
                    clear us hq
                    go_wp2_with fail
                    go_roundw
                    case rel => exact ⟨k4 + 1, m4 + 1, by go_num, by go_num, by omega, by omega, M4, hB4⟩
                    case measure => simp [intOf]; omega
                · have zki : ¬ (k4 : Int) ≤ (i : Int) := by omega
                  have em : m4 = hn2 := by
                    have e4 : k4 = i + 1 := by omega
                    rw [hM.out, HN2.out, e4]
                    exact PH.out.length_eq.symm
                  subst em
                  clear hM
                  go_wp2_with fail
                  have I5 := hide (I3.out.later hB4.out)
                  obtain ⟨gl, hgl⟩ : ∃ gl, gl = G'.length := ⟨_, rfl⟩
                  have LEN : Hid (Calls Try.prog 23 #[.pointer (some ⟨b, 0, none⟩)] wr fun e w' => e = .returned (.int .i64 (gl : Int)) ∧ w' = wr) := by
                    obtain ⟨va, vc, cv, _⟩ := I5.out.fr.at
                    rw [hgl]
                    exact fLen_any wr b va _ vc cv
                  have gl4 : gl ≤ 4 := by rw [hgl]; exact I5.out.fr.len
                  have zgl : ¬ (4 : Int) < (gl : Int) := by omega
                  clear hgl I3 IF RF PH HN2
                  refine LEN.out.mono ?_
                  rintro _ wq ⟨rfl, hwq⟩
                  rw [hwq]
                  clear hwq wq LEN
                  go_wp2_with fail
                  refine (fBytes_any I5.out.fr).mono ?_
                  rintro _ wH ⟨rfl, bH⟩
                  have I6 := hide (I5.out.later bH)
                  have szb : szG G' ≤ 2048 := by rw [← szS_abs]; exact I5.out.ok.sz
                  obtain ⟨sz, hsz⟩ : ∃ sz, sz = szG G' := ⟨_, rfl⟩
                  rw [← hsz] at szb ⊢
                  have zsz : ¬ (2048 : Int) < (sz : Int) := by omega
                  have kw : wH.cell? ⟨g, off + i * 19 + 18, none⟩ = some (.int .i64 o.wait) := OC.out wH I6.out.bel 18 _ rfl
                  have ow := OO.out.wait
                  obtain ⟨wt, hwt⟩ : ∃ t, t = o.wait := ⟨_, rfl⟩
                  rw [← hwt] at kw ow
                  clear hsz hwt bH I5 OO
                  by_cases hw0 : 0 < wt
                  · have hr1 : 0 ≤ wt % 40 := by omega
                    have hr2 : wt % 40 < 40 := by omega
                    have I7 : Hid (∃ ρ G T, BdI w b gT n (i + 1) (now + wt % 40) ρ G T wH ∧ (bfS (absG G)).Perm (unt (i + 1) T)) := ⟨ρ', G', T2, I6.out.wait (by omega), hP5.out⟩
                    clear I6
                    go_wp2_with fail
                    go_roundw
                    case rel => exact ⟨i + 1, now + wt % 40, by go_num, by go_num, by omega, by omega, by omega, I7⟩
                    case measure => simp [intOf]; omega
                  · have I7 : Hid (∃ ρ G T, BdI w b gT n (i + 1) now ρ G T wH ∧ (bfS (absG G)).Perm (unt (i + 1) T)) := ⟨ρ', G', T2, I6.out, hP5.out⟩
                    clear I6
                    go_wp2_with fail
                    go_roundw
                    case rel => exact ⟨i + 1, now, rfl, by go_num, by omega, by omega, by omega, I7⟩
                    case measure => simp [intOf]; omega
    · have zin : ¬ (i : Int) < (n : Int) := by omega
      have TK := hide (tick_any HI.out.fr (now + 16) (by omega) (HI.out.si.bd (by omega)))
      have n16 : now + 16 ≤ 9223372036854775807 := by omega
      go_wp2_with fail
      refine TK.out.mono ?_
      rintro _ w5 ⟨tv, rfl, ρ5, _, _, f5, b5⟩
      have g0 : G.filter (youngG (now + 16)) = [] := by
        apply abs_nil
        rw [abs_young]
        exact old_all HI.out.si (by omega)
      rw [g0] at f5
      have BF := hide (fBufs_any f5)
      have F5 := hide f5
      have B5 : Hid (Below w.heap.size w w5) := by
        refine HI.out.bel.trans (b5.below HI.out.bel.size (fun g hg e => ?_))
        have e : g = b := e
        have := HI.out.hb
        omega
      clear TK g0 f5 b5
      go_wp2_with fail
      refine BF.out.mono ?_
      rintro _ w6 ⟨bv, rfl, hrow, b6⟩
      obtain ⟨ba, bc, rfl⟩ := hrow.shape
      rw [show (gbf ([] : List (Nat × Gm))).length = 0 from rfl]
      have LEN : Hid (Calls Try.prog 23 #[.pointer (some ⟨b, 0, none⟩)] w6 fun e w' => e = .returned (.int .i64 0) ∧ w' = w6) := by
        obtain ⟨va, vc, cv, _⟩ := (F5.out.later b6).at
        exact fLen_any w6 b va 0 vc cv
      have B6 := hide (later B5.out b6)
      clear hrow BF F5 b6 B5
      go_wp2_with fail
      refine LEN.out.mono ?_
      rintro _ wq ⟨rfl, hwq⟩
      rw [hwq]
      clear hwq wq LEN
      go_wp2
      go_ret
      exact ⟨rfl, B6.out⟩
end Go.Proofs.Ytohalgfindhjnaa
