
/-
  Package frag: Bytes.
-/
import Derived.Test.YtgempelfamjabaaF14
namespace Go.Proofs.Ytgempelfamjabaa
open Go.RowKit Go.Shelf
attribute [local go_sem] Oper.semAt_some

def szP (L : List Pc) : Nat := (L.map (fun x => x.D.length)).sum
def szG (G : List (Nat × Gm)) : Nat := (G.map (fun p => szP p.2.L)).sum
theorem szP_more {L : List Pc} {k : Nat} {x : Pc} (h : L[k]? = some x) : szP (L.take (k + 1)) = szP (L.take k) + x.D.length := by
  unfold szP
  rw [take_moreG h]
  simp
theorem szG_more {G : List (Nat × Gm)} {k : Nat} {p : Nat × Gm} (h : G[k]? = some p) : szG (G.take (k + 1)) = szG (G.take k) + szP p.2.L := by
  unfold szG
  rw [take_moreG h]
  simp
theorem szP_le {L : List Pc} (h : ∀ x ∈ L, x.D.length ≤ 1024) : szP L ≤ L.length * 1024 := by
  induction L with
  | nil => exact Nat.le_refl _
  | cons x l ih =>
    have h1 := h x (by simp)
    have h2 := ih (fun y hy => h y (by simp [hy]))
    simp only [szP, List.map_cons, List.sum_cons, List.length_cons] at h2 ⊢
    omega
theorem szG_le {G : List (Nat × Gm)} (h : ∀ p ∈ G, szP p.2.L ≤ 614400) : szG G ≤ G.length * 614400 := by
  induction G with
  | nil => exact Nat.le_refl _
  | cons x l ih =>
    have h1 := h x (by simp)
    have h2 := ih (fun y hy => h y (by simp [hy]))
    simp only [szG, List.map_cons, List.sum_cons, List.length_cons] at h2 ⊢
    omega
theorem Pc.Ok.len {P : Nat → Prop} {W : World} {x : Pc} (h : x.Ok P W) : x.D.length ≤ 1024 := by
  have := h.lo
  have := h.hi
  omega
theorem Marks.lt {N : Nat} {W : World} {ds : List Deferred} (h : Marks N W ds) : ∀ d ∈ ds, ∀ D, d.target = .collected D → D < W.heap.size := by
  induction h with
  | nil => intro d hd; cases hd
  | cons h1 h2 h3 h4 ih =>
    intro d hd D e
    rcases List.mem_cons.1 hd with rfl | hd
    · cases e
      exact (Array.getElem?_eq_some_iff.1 h2).1
    · exact ih d hd D e
theorem sum_take_le (L : List Nat) (k : Nat) : (L.take k).sum ≤ L.sum := by
  conv => rhs; rw [← List.take_append_drop k L, List.sum_append]
  omega
/-- between two rounds: the variable at s holds a number -/
def NbI (w1 : World) (s : Nat) (f : Nat → Int) (k : Nat) (W : World) : Prop :=
  But (Only s) w1 W ∧ W.frozen? ⟨s, 0, none⟩ = false ∧ W.cell? ⟨s, 0, none⟩ = some (.int .i64 (f k))
theorem NbI.keep {w1 : World} {s : Nat} {f : Nat → Int} {k : Nat} {W W' : World} {K : Nat → Prop} (h : NbI w1 s f k W) (hs : s < w1.heap.size) (hb : But K W W') (hk : ∀ g, K g → w1.heap.size ≤ g) : NbI w1 s f k W' := by
  obtain ⟨h1, h2, h3⟩ := h
  have zs : s < W.heap.size := World.block_lt_of_cell? W _ h3
  have ks : ¬ K s := fun e => by have := hk s e; omega
  exact ⟨h1.trans' hb (fun g hg e => by have := hk g e; omega), (hb.frozen (p := ⟨s, 0, none⟩) zs ks).trans h2, (hb.cell (p := ⟨s, 0, none⟩) zs ks).trans h3⟩
/-- between two rounds of the loop over all datagrams -/
def BtL (b s N vc : Nat) (va : Option Addr) (w1 : World) (G : List (Nat × Gm)) (a : Act) (W : World) : Prop :=
  ∃ (i : Nat) (ds : List Deferred) (x5 x13 x14 x15 x16 x17 x24 : Value), a = { tmps := #[.pointer (some ⟨b, 0, none⟩), undef, .int .i64 0, .pointer (some ⟨s, 0, none⟩), undef, x5, undef, .pointer (some ⟨b, 0, none⟩), .pointer (some ⟨b, 0, none⟩), .pointer (some ⟨b, 0, none⟩), .slice va N vc, .int .i64 N, .int .i64 i, x13, x14, x15, x16, x17, undef, undef, undef, undef, undef, undef, x24, undef], defers := ds } ∧ i ≤ N ∧ Marks w1.heap.size W ds ∧ NbI w1 s (fun j => (szG (G.take j) : Int)) i W
def mu12 (N : Nat) (a : Act) (_ : World) : Nat := N - (intOf (a.tmps[12]!)).toNat
set_option maxRecDepth 100000 in
set_option maxHeartbeats 4000000 in
theorem fBytes_in (n : Nat) (hn : 3 ≤ n) {ρ : Nat → Nat × Nat} {w : World} {b : Nat} {G : List (Nat × Gm)} (h : FrAt ρ w b G) :
    CallsIn Fence.wide n Try.prog 21 #[.pointer (some ⟨b, 0, none⟩)] w fun e w' => e = .returned (.int .i64 (szG G : Int)) ∧ Below w.heap.size w w' := by
  have h1 : 1 ≤ n := by omega
  obtain ⟨va, vc, cv, hat⟩ := h.at
  obtain ⟨N, hN⟩ : ∃ N, N = G.length := ⟨_, rfl⟩
  rw [← hN] at cv
  have hblt := h.lt
  refine callsIn_of_wp_marks Try.func21 rfl trivial ?_ rfl
  simp only [Try.ntmps21, List.size_toArray, List.length_cons, List.length_nil, Nat.reduceAdd, Nat.reduceSub, Array.replicate_succ, Array.replicate_zero, List.push_toArray, List.append_toArray, List.nil_append, List.cons_append]
  obtain ⟨s, hs⟩ : ∃ s, s = w.heap.size := ⟨_, rfl⟩
  obtain ⟨w1, hw1⟩ : ∃ w1, w1 = w.alloc (.cells #[.int .i64 0] 3) := ⟨_, rfl⟩
  have b1 : Below w.heap.size w w1 := by rw [hw1]; exact later_alloc _ _
  have c1 : CellsAt w1 s 0 [.int .i64 0] := by rw [hw1, hs]; exact CellsAt.new w _ _
  have k1 : w1.cell? ⟨s, 0, none⟩ = some (.int .i64 0) := c1 0 _ rfl
  have f1 : w1.frozen? ⟨s, 0, none⟩ = false := by rw [hw1, hs]; exact frozen_new w _ _ _
  obtain ⟨w2, hw2⟩ : ∃ w2, w2 = w1.setCell ⟨s, 0, none⟩ (.int .i64 0) := ⟨_, rfl⟩
  have e2 : w2 = w1 := by rw [hw2, hw1, hs, setCell_alloc]; rfl
  have z1 : w1.heap.size = s + 1 := by rw [hw1, hs, World.size_alloc]
  have cv1 := (b1.cell (p := ⟨b, 0, none⟩) hblt).trans cv
  have hw2' : w1.setCell ⟨s, 0, none⟩ (.int .i64 0) = w1 := by rw [← hw2, e2]
  have hw1' := hw1.symm
  have hs' := hs.symm
  have HB1 := hide b1
  have HS := hide hs
  have HH := hide h
  have HAT := hide hat
  have HN := hide hN
  have HZ1 := hide z1
  have HBL := hide hblt
  clear hw1 hs cv c1 hw2 e2 b1 h hat hN z1 hblt
  gi_wp2
  clear hw1' hs' hw2' cv1
  refine wpIn_loop (BtL b s N vc va w1 G) (mu12 N) ?_ ?_
  · exact ⟨0, [], _, _, _, _, _, _, _, rfl, Nat.zero_le _, .nil, But.refl _ _, f1, k1⟩
  · rintro a W ⟨i, ds, x5, x13, x14, x15, x16, x17, x24, rfl, hi, hm, hI⟩
    clear k1 f1
    have hbw : Below w.heap.size w W := HB1.out.trans (hI.1.below HB1.out.size (fun g hg e => by have e : g = s := e; have := HS.out; omega))
    by_cases hlt : i < N
    · obtain ⟨p, hp⟩ : ∃ p, G[i]? = some p := ⟨_, List.getElem?_eq_getElem (by rw [← HN.out]; exact hlt)⟩
      obtain ⟨ga, eva, hgc⟩ := HAT.out i p hp
      have iz : (i : Int) < (N : Int) := by omega
      have nz : (N : Int) ≤ 4 := by have := HH.out.len; have := HN.out; omega
      have x0 := hgc W hbw
      have gm := ((HH.out.gm p (List.mem_of_getElem? hp)).2.2).later hbw
      have hplt : p.1 < w.heap.size := ((HH.out.gm p (List.mem_of_getElem? hp)).2.2).lt
      obtain ⟨pb, hpb⟩ : ∃ pb, pb = p.1 := ⟨_, rfl⟩
      rw [← hpb] at x0 gm hplt
      have MORE := hide (szG_more hp)
      have hlen := gm.len
      obtain ⟨a0, c0, g, cL, hga, hcs, hdv⟩ := ((HH.out.gm p (List.mem_of_getElem? hp)).2.2).it
      rw [← hpb] at cL
      replace cL := (hbw.cell (p := ⟨pb, 27, none⟩) hplt).trans cL
      replace hcs : ∀ j x, p.2.L[j]? = some x → CellsAt W g (j * 4) x.cells := fun j x hx => (hcs j x hx).later (hga (by have := (List.getElem?_eq_some_iff.1 hx).1; omega)).2 hbw
      have hle : ∀ x ∈ p.2.L, x.D.length ≤ 1024 := fun x hx => (gm.con x hx).len
      have hsh : ∀ x ∈ p.2.L, ∃ a c, x.dv = .slice a x.D.length c := fun x hx => (gm.con x hx).d.shape
      obtain ⟨L, hL⟩ : ∃ L, L = p.2.L := ⟨_, rfl⟩
      rw [← hL] at cL hga hcs hdv hlen hle hsh MORE
      have hI' := hI
      have BIG : Hid (szG (G.take i) + szP L ≤ 10000000) := by
        have h1 : szG (G.take i) ≤ (G.take i).length * 614400 := szG_le (fun q hq => by
          have gq := (HH.out.gm q (List.mem_of_mem_take hq)).2.2
          have := szP_le (L := q.2.L) (fun x hx => (gq.con x hx).len)
          have := gq.len
          omega)
        have h2 : (G.take i).length ≤ 4 := by rw [List.length_take]; have := HH.out.len; omega
        have h3 := szP_le hle
        show _ ≤ _
        omega
      obtain ⟨c1, hc1⟩ : ∃ c1, c1 = szG (G.take i) := ⟨_, rfl⟩
      have I0 : NbI W s (fun j => (c1 : Int) + szP (L.take j)) 0 W := ⟨But.refl _ _, hI.2.1, by rw [hI.2.2]; simp [szP, hc1]⟩
      have hsz : s < W.heap.size := World.block_lt_of_cell? W _ hI.2.2
      have HGA := hide hga
      have HCS := hide hcs
      have HDV := hide hsh
      have HLE := hide hle
      have HII := hide hI
      have HM := hide hm
      have HI0 := hide I0
      have HBW := hide hbw
      have CL := hide cL
      have HC1 := hide hc1
      subst eva
      clear hga hcs hdv hsh hle hI hm I0 hbw gm hgc hp hpb hL hI' cL hc1
      gi_wp2_with fail
      refine ⟨trivial, ?_⟩
      refine (pieces_in (n - 1) pb _).mono ?_
      rintro e w' ⟨rfl, rfl⟩
      obtain ⟨t, ht⟩ : ∃ t, t = W.heap.size := ⟨_, rfl⟩
      obtain ⟨W1, hW1⟩ : ∃ W1, W1 = W.alloc (.cells #[.pointer (some ⟨pb, 0, none⟩)] 65) := ⟨_, rfl⟩
      have bW1 : Below W.heap.size W W1 := by rw [hW1]; exact later_alloc _ _
      have cT : W1.cell? ⟨t, 0, none⟩ = some (.pointer (some ⟨pb, 0, none⟩)) := by rw [hW1, ht]; exact CellsAt.new W [_] _ 0 _ rfl
      have zW1 : W1.heap.size = t + 1 := by rw [hW1, ht, World.size_alloc]
      have I1 : NbI W1 s (fun j => (c1 : Int) + szP (L.take j)) 0 W1 := ⟨But.refl _ _, (bW1.frozen (p := ⟨s, 0, none⟩) hsz).trans HI0.out.2.1, (bW1.cell (p := ⟨s, 0, none⟩) hsz).trans HI0.out.2.2⟩
      have plt : pb < W.heap.size := World.block_lt_of_cell? W _ CL.out
      have CL1 := hide ((bW1.cell (p := ⟨pb, 27, none⟩) plt).trans CL.out)
      have HBW1 := hide bW1
      have HT := hide ht
      have HZW1 := hide zW1
      have CT := hide cT
      have sl : Hid (s < W1.heap.size) := by unfold Hid; omega
      have HPS : Hid (pb ≠ s) := by have := HS.out; unfold Hid; omega
      have HPL := hide plt
      have HSZ := hide hsz
      have HLEN := hide hlen
      rw [← hW1, ← ht]
      clear hW1 ht bW1 cT zW1 plt hsz CL x0 hplt hlen
      gi_wp2
      refine wpIn_range h1 (gf := 51) (lb := #[.pointer (some ⟨t, 0, none⟩)]) rfl (enters_of Try.func51 (by kernel_rfl) rfl) (NbI W1 s (fun j => (c1 : Int) + szP (L.take j))) (fun _ _ => False) 0
        (pieces_tells (n - 1) (by omega) t pb g L.length c0 a0 (fun hl => (HGA.out hl).1) (by have := HLEN.out; omega) L rfl (fun x hx => by obtain ⟨a, c, e⟩ := HDV.out x hx; exact ⟨a, _, c, e⟩) _ (fun j W o hI => hI.keep sl.out ((But.refl (fun _ => False) W).alloc o) (fun _ e => e.elim)) (fun j W' hI => ⟨(hI.1.cell (p := ⟨t, 0, none⟩) (by have := HZW1.out; show t < _; omega) (fun e => by have e : t = s := e; have := HT.out; have := HSZ.out; omega)).trans CT.out, (hI.1.cell (p := ⟨pb, 27, none⟩) (by have := HZW1.out; have := HPL.out; have := HT.out; show pb < _; omega) (fun e => HPS.out e)).trans CL1.out, fun q x hx => by
            have hg := (HGA.out (by have := (List.getElem?_eq_some_iff.1 hx).1; omega)).2
            have := HBW.out.size
            have := HBW1.out.size
            have := HS.out
            exact ((HCS.out q x hx).later (by omega) HBW1.out).but (by omega) hI.1 (fun e => by have e : g = s := e; omega)⟩))
        (fun j args ⟨_, _, e⟩ => by rw [e]; rfl) (fun j W o hI => hI.keep sl.out ((But.refl (fun _ => False) W).alloc o) (fun _ e => e.elim)) (fun j W l o o' hl ho hc hI => hI.keep sl.out (put_but W l o') (fun q e => by subst e; exact hl)) (fun c W o h => h.elim) (fun c W l o o' hl ho hc h => h.elim) (fun c W h => h.elim) I1 ?round ?done ?stop
      case stop => intro D c W _ h; exact h.elim
      case done =>
        intro D j W' hD hj hI hDW
        subst hj
        have bAll : But (Only s) W W' := (But.of_below HBW1.out).trans hI.1
        have FIN : Hid (Marks w1.heap.size W' ({ target := .collected D, args := #[] } :: ds) ∧ NbI w1 s (fun j => (szG (G.take j) : Int)) (i + 1) W') := by
          have z1 := HZ1.out
          have zw := HII.out.1.size
          have zb := HBW1.out.size
          refine ⟨.cons (by omega) hDW (fun d hd e => ?_) (HM.out.all (fun E hE he _ => ?_)), HII.out.1.trans bAll, hI.2.1, ?_⟩
          · have := HM.out.lt d hd D e
            omega
          · have hl := (Array.getElem?_eq_some_iff.1 he).1
            exact (bAll.block E hl (fun e => by have e : E = s := e; omega)).trans he
          · rw [hI.2.2]
            show some (Value.int .i64 ((c1 : Int) + szP (L.take L.length))) = some (Value.int .i64 (szG (G.take (i + 1)) : Int))
            rw [MORE.out, HC1.out, List.take_length]
            simp
        clear hI hDW bAll
        gi_wp2
        refine ⟨⟨i + 1, _, _, _, _, _, _, _, _, rfl, by omega, FIN.out.1, FIN.out.2⟩, ?_⟩
        show N - _ < N - _
        simp [intOf]
        omega
      case round =>
        rintro l j args W' hlS hI ⟨x, hx, rfl⟩
        obtain ⟨da, dc, edv⟩ := HDV.out x (List.mem_of_getElem? hx)
        obtain ⟨dn, hdn⟩ : ∃ dn, dn = x.D.length := ⟨_, rfl⟩
        rw [← hdn] at edv
        have ex : (Value.agg x.cells.toArray) = .agg #[.int .i64 x.at_, .slice da dn dc, .bool x.last, .int .i64 x.buf] := by rw [← edv]; rfl
        rw [ex]
        have HI := hide hI
        have HDN := hide hdn
        clear hI ex hdn
        gi_wp2
        refine ⟨KeepsFrom.of_but ((But.refl (fun _ => False) W').alloc _) (fun _ e => e.elim), ?_⟩
        intro o o' hoo hc
        obtain ⟨p0, hp0⟩ : ∃ p, p = W'.heap.size := ⟨_, rfl⟩
        rw [← hp0]
        have cA : CellsAt (W'.alloc (.cells #[.int .i64 x.at_, .slice da dn dc, .bool x.last, .int .i64 x.buf] 80)) p0 0 [.int .i64 x.at_, .slice da dn dc, .bool x.last, .int .i64 x.buf] := by rw [hp0]; exact CellsAt.new W' _ _
        have IA : NbI W1 s (fun j => (c1 : Int) + szP (L.take j)) j (W'.alloc (.cells #[.int .i64 x.at_, .slice da dn dc, .bool x.last, .int .i64 x.buf] 80)) := HI.out.keep sl.out ((But.refl (fun _ => False) W').alloc _) (fun _ e => e.elim)
        generalize W'.alloc (.cells #[.int .i64 x.at_, .slice da dn dc, .bool x.last, .int .i64 x.buf] 80) = WA at *
        have pl : p0 ≠ l := (show Cel WA p0 from cells_of_cell (cA 0 _ rfl)).ne hoo hc
        have lA : p0 < WA.heap.size := cA.lt (Nat.zero_lt_succ _)
        have I2 : NbI W1 s (fun j => (c1 : Int) + szP (L.take j)) j (WA.putObj l o') := IA.keep sl.out (put_but WA l o') (fun q e => by subst e; exact hlS)
        have c2 : CellsAt (WA.putObj l o') p0 0 [.int .i64 x.at_, .slice da dn dc, .bool x.last, .int .i64 x.buf] := cA.but lA (put_but WA l o') pl
        clear hoo hc HI IA cA lA pl hp0
        generalize WA.putObj l o' = W2 at *
        refine wpIn_block ?_
        obtain ⟨hbW, hfz, cv⟩ := I2
        have TK := szP_more hx
        have bg := BIG.out
        have le1 : szP (L.take j) + x.D.length ≤ szP L := by
          rw [← TK]
          unfold szP
          rw [List.map_take]
          exact sum_take_le _ _
        have HDN' := HDN.out
        obtain ⟨q, hq⟩ : ∃ q, q = (c1 : Int) + szP (L.take j) := ⟨_, rfl⟩
        have q1 : 0 ≤ q := by omega
        have q2 : q + dn ≤ 10000000 := by have := HC1.out; omega
        have q3 : Hid ((c1 : Int) + szP (L.take (j + 1)) = q + dn) := by unfold Hid; rw [TK]; omega
        replace cv : W2.cell? ⟨s, 0, none⟩ = some (.int .i64 q) := by rw [hq]; exact cv
        have k1 : W2.cell? ⟨p0, 1, none⟩ = some (.slice da dn dc) := c2 1 _ rfl
        have HBW2 := hide hbW
        clear TK bg le1 HDN' hq hbW c2
        gi_wp2
        refine ⟨KeepsFrom.of_but (K := Only s) ((But.refl (Only s) _).cellb (b := s) rfl 0 _) (fun g e => by have e : g = s := e; subst e; exact cells_of_cell cv), j + 1, rfl, But.cellb (K := Only s) (b := s) HBW2.out rfl 0 _, by rw [World.frozen?_setCell]; exact hfz, ?_⟩
        show _ = some (Value.int .i64 ((c1 : Int) + szP (L.take (j + 1))))
        rw [q3.out]
        exact World.cell?_setCell_same' _ _ _ (by rw [cv]; rfl)
    · have x0 := hI.2.2
      have ei : G.take i = G := by rw [List.take_of_length_le (by rw [← HN.out]; omega)]
      replace x0 : W.cell? ⟨s, 0, none⟩ = some (.int .i64 (szG G)) := by rw [x0]; show some (Value.int .i64 ((szG (G.take i) : Nat) : Int)) = _; rw [ei]
      have iz : ¬ (i : Int) < (N : Int) := by omega
      have HM := hide hm
      have HBW := hide hbw
      clear hI hm hbw ei
      gi_wp2
      refine leaves_marks _ _ HM.out (fun W' hW' => ?_)
      exact ⟨_, by simp [results, go_sem], rfl, HBW.out.trans (hW'.below HBW.out.size (fun g hg e => by have := e.1; have := HZ1.out; have := HS.out; omega))⟩
theorem fBytes_any {ρ : Nat → Nat × Nat} {w : World} {b : Nat} {G : List (Nat × Gm)} (h : FrAt ρ w b G) : Calls Try.prog 21 #[.pointer (some ⟨b, 0, none⟩)] w fun e w' => e = .returned (.int .i64 (szG G : Int)) ∧ Below w.heap.size w w' :=
  callsIn_wide.1 (fBytes_in 3 (Nat.le_refl _) h)
end Go.Proofs.Ytgempelfamjabaa
