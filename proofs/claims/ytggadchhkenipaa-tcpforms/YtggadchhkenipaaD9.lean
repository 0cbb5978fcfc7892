
/-
  Package tcp: readOptions.
-/
import Derived.Test.YtggadchhkenipaaD8
import Derived.Sort.CutIn
namespace Go.Proofs.Ytggadchhkenipaa
open Go.RowKit Go.Shelf
attribute [local go_sem] Oper.semAt_some

/-- what options say -/
structure Ro where
  mss : Int
  sak : Bool
  got : List Sp
def oneO (syn : Bool) (o : List Int) (r : Ro) : Ro :=
  if nb o 0 = 2 ∧ o.length = 4 ∧ syn = true then { r with mss := w16 o 2 } else
  if nb o 0 = 4 ∧ o.length = 2 ∧ syn = true then { r with sak := true } else
  if nb o 0 = 5 ∧ areS o.length = true then { r with got := spL (o.drop 2) ((o.length - 2) / 8) } else r
def rdO (syn : Bool) (b : List Int) (r : Ro) : Bool × Ro :=
  if h : b.length = 0 then (true, r) else if b[0]?.getD 0 = 0 then (true, r) else if _hz : szT b = 0 then (false, r) else rdO syn (b.drop (szT b)) (oneO syn (b.take (szT b)) r)
termination_by b.length
decreasing_by
  rw [List.length_drop]
  omega
theorem rdO_nil (syn : Bool) (r : Ro) : rdO syn [] r = (true, r) := by rw [rdO]; simp
theorem rdO_end {syn : Bool} {b : List Int} {r : Ro} (h : 0 < b.length) (h0 : b[0]?.getD 0 = 0) : rdO syn b r = (true, r) := by
  rw [rdO, dif_neg (by omega), if_pos h0]
theorem rdO_bad {syn : Bool} {b : List Int} {r : Ro} (h : 0 < b.length) (h0 : b[0]?.getD 0 ≠ 0) (hz : szT b = 0) : rdO syn b r = (false, r) := by
  rw [rdO, dif_neg (by omega), if_neg h0, dif_pos hz]
theorem rdO_more {syn : Bool} {b : List Int} {r : Ro} (h : 0 < b.length) (h0 : b[0]?.getD 0 ≠ 0) (hz : szT b ≠ 0) : rdO syn b r = rdO syn (b.drop (szT b)) (oneO syn (b.take (szT b)) r) := by
  rw [rdO, dif_neg (by omega), if_neg h0, dif_neg hz]
/-- a segment that says so -/
def Sg.ro (s : Sg) (r : Ro) : Sg := { s with mss := r.mss, sak := r.sak, got := r.got }
structure RoM (w1 : World) (sb : Nat) (h : Sg) (dv : Value) (r : Ro) (W : World) : Prop where
  fz : ∀ y, W.frozen? ⟨sb, y, none⟩ = false
  row : ∃ gv, CellsAt W sb 0 ((h.ro r).cells gv dv) ∧ CG (fun g => w1.heap.size ≤ g ∧ Cel W g) W gv r.got
theorem RoM.keep {w1 : World} {sb : Nat} {h : Sg} {dv : Value} {r : Ro} {W W' : World} {K : Nat → Prop} (H : RoM w1 sb h dv r W) (hs : sb < w1.heap.size) (hw : w1.heap.size ≤ W.heap.size) (hb : But K W W') (hk : ∀ g, K g → g ≠ sb ∧ (w1.heap.size ≤ g → ¬ Cel W g)) : RoM w1 sb h dv r W' := by
  obtain ⟨gv, c, g⟩ := H.row
  have ks : ¬ K sb := fun e => (hk sb e).1 rfl
  have zs : sb < W.heap.size := by omega
  refine ⟨fun y => (hb.frozen (p := ⟨sb, y, none⟩) zs ks).trans (H.fz y), gv, c.but zs hb ks, ?_⟩
  exact (g.but hb (fun q e e2 => (hk q e2).2 e.1 e.2)).own (fun q hq e => ⟨e.1, e.2.but hb (fun e2 => (hk q e2).2 e.1 e.2)⟩)
def RoI (w1 : World) (sb : Nat) (h : Sg) (dv : Value) (bs : List Int) (r0 : Ro) (q : Nat × Bool) (W : World) : Prop :=
  But (Only sb) w1 W ∧ q.2 = false ∧ ∃ r, RoM w1 sb h dv r W ∧ rdO (hasB h.flg 2) bs r0 = rdO (hasB h.flg 2) (bs.drop q.1) r
def RoX (w1 : World) (s sb : Nat) (h : Sg) (dv : Value) (bs : List Int) (r0 : Ro) (id : Nat) (c : Code) (W : World) : Prop :=
  c = .exit id ∧ But (fun g => g = sb ∨ g = s + 1) w1 W ∧ W.cell? ⟨s + 1, 0, none⟩ = some (.bool (rdO (hasB h.flg 2) bs r0).1) ∧ RoM w1 sb h dv (rdO (hasB h.flg 2) bs r0).2 W
theorem RoI.keep {w1 : World} {sb : Nat} {h : Sg} {dv : Value} {bs : List Int} {r0 : Ro} {q : Nat × Bool} {W W' : World} {K : Nat → Prop} (H : RoI w1 sb h dv bs r0 q W) (hs : sb < w1.heap.size) (hb : But K W W') (hk : ∀ g, K g → w1.heap.size ≤ g ∧ ¬ Cel W g) : RoI w1 sb h dv bs r0 q W' := by
  obtain ⟨h1, h2, r, h3, h4⟩ := H
  exact ⟨h1.trans' hb (fun g hg e => by have := (hk g e).1; omega), h2, r, h3.keep hs h1.size hb (fun g e => ⟨fun e2 => by have := (hk g e).1; omega, fun _ => (hk g e).2⟩), h4⟩
theorem RoX.keep {w1 : World} {s sb : Nat} {h : Sg} {dv : Value} {bs : List Int} {r0 : Ro} {id : Nat} {c : Code} {W W' : World} {K : Nat → Prop} (H : RoX w1 s sb h dv bs r0 id c W) (hs : sb < w1.heap.size) (hs2 : s + 1 < w1.heap.size) (hb : But K W W') (hk : ∀ g, K g → w1.heap.size ≤ g ∧ ¬ Cel W g) : RoX w1 s sb h dv bs r0 id c W' := by
  obtain ⟨h1, h2, h3, h4⟩ := H
  exact ⟨h1, h2.trans' hb (fun g hg e => by have := (hk g e).1; omega), (hb.cell (p := ⟨s + 1, 0, none⟩) (by have := h2.size; show s + 1 < _; omega) (fun e => by have : w1.heap.size ≤ s + 1 := (hk _ e).1; omega)).trans h3, h4.keep hs h2.size hb (fun g e => ⟨fun e2 => by have := (hk g e).1; omega, fun _ => (hk g e).2⟩)⟩
theorem exec_eqlU {o : Oper} {w : World} {ev : Operand → Value} (x y : Operand) (t : TypeId) (a b : Int) (q : Bool) (ho : o.op = .binOp .eql 5 x y t) (hx : ev x = .int .u8 a) (hy : ev y = .int .u8 b) (hq : (a == b) = q) : (execOp ev o).run Try.prog w = .ok (.value (.bool q)) w := by
  unfold execOp
  simp [ho, hx, hy, go_sem, hq]
section
variable {l n : Nat} {ops : Array Oper} {rest : List Oper} {o : Oper} {a : Act} {w w' : World} {Q : Exit → Act → World → Prop}
/-- an operation of a list in a round: asked for, not asked for -/
theorem listRV (d : Tmp) (v : Value) (hw : Region.wanted o (yielded ops a.tmps) = true) (hnd : noDefer o = true) (hd : o.dst = some d) (hrun : (execOp a.eval o).run Try.prog w = .ok (.value v) w') (h : wpListIn (Fence.wide.inRound l) n Try.prog ops Q rest (a.put (some d) v) w') : wpListIn (Fence.wide.inRound l) n Try.prog ops Q (o :: rest) a w := by
  unfold wpListIn
  rw [if_pos hw]
  refine ⟨fun _ _ => trivial, ?_⟩
  rw [Oper.semAt_eq _ _ _ (fun c e => by unfold noDefer at hnd; rw [e] at hnd; cases hnd), hrun]
  simp only [Oper.uponIn, hd]
  exact h
theorem listRS (hw : Region.wanted o (yielded ops a.tmps) = false) (h : wpListIn (Fence.wide.inRound l) n Try.prog ops Q rest (a.put o.dst undef) w) : wpListIn (Fence.wide.inRound l) n Try.prog ops Q (o :: rest) a w := by
  unfold wpListIn
  rw [if_neg (by rw [hw]; decide)]
  exact ⟨fun _ _ => trivial, h⟩
end
theorem oneSgp (w : World) : (isAgg 63).run Try.prog w = .ok false w := by kernel_rfl
theorem s1J (w : World) : (Go.sizeOf 3).run Try.prog w = .ok 1 w := by kernel_rfl
theorem exec_nilS {o : Oper} {w : World} {ev : Operand → Value} (x : Operand) (b : Nat) (ho : o.op = .nilCheck x) (hx : ev x = .pointer (some ⟨b, 0, none⟩)) : (execOp ev o).run Try.prog w = .ok (.value (.pointer (some ⟨b, 0, none⟩))) w := by
  unfold execOp
  simp [ho, hx, go_sem]
set_option maxRecDepth 100000 in
set_option maxHeartbeats 8000000 in
theorem readOptions_in (n : Nat) (hn : 3 ≤ n) {w : World} (sb : Nat) (h : Sg) (dv : Value) (r0 : Ro) (hr0 : r0 = ⟨0, false, []⟩) (hM : CellsAt w sb 0 ((h.ro r0).cells (.slice none 0 0) dv) ∧ ∀ y, w.frozen? ⟨sb, y, none⟩ = false) (hsb : sb < w.heap.size) (hda : ∃ a n c, dv = .slice a n c) (a0 : Option Addr) (C : Nat) (bs : List Int) (hb : IsB w.heap.size w (.slice a0 bs.length C) bs) (hgs : ∀ g off, a0 = some ⟨g, off, none⟩ → g ≠ sb) (hB : Bytes bs) (hlb : bs.length ≤ 1000) :
    CallsIn Fence.wide n Try.prog 39 #[.pointer (some ⟨sb, 0, none⟩), .slice a0 bs.length C] w fun e w' => e = .returned (.bool (rdO (hasB h.flg 2) bs r0).1) ∧ RoM w sb h dv (rdO (hasB h.flg 2) bs r0).2 w' ∧ But (Only sb) w w' := by
  have h1 : 1 ≤ n := by omega
  obtain ⟨N, hN⟩ : ∃ N, N = bs.length := ⟨_, rfl⟩
  rw [← hN] at hb hlb ⊢
  obtain ⟨a', c', e', hlc, hnil, hc⟩ := hb
  simp only [Value.slice.injEq] at e'
  obtain ⟨rfl, -, rfl⟩ := e'
  obtain ⟨g, off, hga, hgl, hcs⟩ : ∃ g off, (0 < N → a0 = some ⟨g, off, none⟩) ∧ (0 < N → g < w.heap.size) ∧ ∀ j, j < N → w.cell? ⟨g, off + j, none⟩ = some (.int .u8 (bs[j]?.getD 0)) := by
    by_cases h0 : 0 < N
    · obtain ⟨g, off, e, hg, hcs⟩ := hc (by omega)
      exact ⟨g, off, fun _ => e, fun _ => hg, fun j hj => hcs j (by omega)⟩
    · exact ⟨0, 0, fun h => absurd h h0, fun h => absurd h h0, fun j hj => by omega⟩
  have hgs' : 0 < N → g ≠ sb := fun h0 => hgs g off (hga h0)
  rw [← hN] at hlc
  have HN := hide hN.symm
  clear hN hc hnil hgs
  refine callsIn_of_wp_marks Try.func39 rfl trivial ?_ rfl
  simp only [Try.ntmps39, List.size_toArray, List.length_cons, List.length_nil, Nat.reduceAdd, Nat.reduceSub, Array.replicate_succ, Array.replicate_zero, List.push_toArray, List.append_toArray, List.nil_append, List.cons_append]
  gi_wp2_with fail
  refine wpIn_scope_straight ?_
  gi_wp2_with fail
  refine wpIn_label ?_
  gi_wp2_with fail
  refine ⟨trivial, ?_⟩
  refine (optionsT_in (n - 1) a0 N C _).mono ?_
  rintro e w' ⟨rfl, rfl⟩
  simp only [World.size_alloc]
  obtain ⟨s, hs⟩ : ∃ s, s = w.heap.size := ⟨_, rfl⟩
  rw [← hs]
  obtain ⟨w1, hw1⟩ : ∃ w1, w1 = boxes [(.pointer (some ⟨sb, 0, none⟩), 63), (.bool true, 4), (.slice a0 N C, 24)] w := ⟨_, rfl⟩
  have hbx := boxes_at [(.pointer (some ⟨sb, 0, none⟩), 63), (.bool true, 4), (.slice a0 N C, 24)] w
  obtain ⟨hb1, hz0⟩ := boxes_below [(.pointer (some ⟨sb, 0, none⟩), 63), (.bool true, 4), (.slice a0 N C, 24)] w
  rw [← hw1, ← hs] at hbx
  rw [← hw1] at hb1 hz0
  have hz1 : w1.heap.size = s + 3 := by rw [hz0, hs]; rfl
  clear hz0
  have cP : w1.cell? ⟨s, 0, none⟩ = some (.pointer (some ⟨sb, 0, none⟩)) := (hbx 0 _ _ rfl).1
  have kB := hbx 1 _ _ rfl
  have cC : w1.cell? ⟨s + 2, 0, none⟩ = some (.slice a0 N C) := (hbx 2 _ _ rfl).1
  have hw1' := hw1.symm
  simp only [boxes] at hw1'
  rw [hw1']
  have sl : Hid (sb < w1.heap.size) := by unfold Hid; omega
  have I0 : RoI w1 sb h dv bs r0 (0, false) w1 := by
    refine ⟨But.refl _ _, rfl, r0, ⟨fun y => (hb1.frozen (p := ⟨sb, y, none⟩) hsb).trans (hM.2 y), _, hM.1.later hsb hb1, ?_⟩, rfl⟩
    rw [hr0]
    exact CG.nil _ _
  have hcs1 : ∀ j, j < N → w1.cell? ⟨g, off + j, none⟩ = some (.int .u8 (bs[j]?.getD 0)) := fun j hj => (hb1.cell (p := ⟨g, off + j, none⟩) (hgl (by omega))).trans (hcs j hj)
  have HB1 := hide hb1
  have HS := hide hs
  have HZ1 := hide hz1
  have HSB := hide hsb
  have CP := hide cP
  have CB := hide kB.1
  have FB := hide kB.2
  have CC := hide cC
  have HCS := hide hcs1
  have HGA := hide hga
  have HGL := hide hgl
  have HGS := hide hgs'
  have HBY := hide hB
  have HR0 := hide hr0
  have HDA := hide hda
  clear hs hw1 hw1' hbx hb1 hz1 cP kB cC hcs1 hcs hga hgl hgs' hM hB hr0 hda hsb
  gi_wp2
  refine wpIn_range h1 (gf := 68) (lb := #[.pointer (some ⟨s + 2, 0, none⟩)]) rfl (enters_of Try.func68 (by kernel_rfl) rfl) (RoI w1 sb h dv bs r0) (RoX w1 s sb h dv bs r0 0) (0, false)
    (optionsT_tells (n - 1) (by omega) (s + 2) g off N C a0 bs HN.out hlc HGA.out HBY.out (by omega) _ (fun q W hI => ⟨(hI.1.cell (p := ⟨s + 2, 0, none⟩) (by have := HZ1.out; show s + 2 < _; omega) (fun e => by have e : s + 2 = sb := e; have := HS.out; have := HSB.out; omega)).trans CC.out, fun j hj => (hI.1.cell (p := ⟨g, off + j, none⟩) (by have := HGL.out (by omega); have := HS.out; have := HZ1.out; show g < _; omega) (fun e => HGS.out (by omega) e)).trans (HCS.out j hj)⟩) (fun q W hI => hI.keep sl.out ((But.refl (fun _ => False) W).drew) (fun _ e => e.elim)))
    (fun q args ht => by obtain ⟨_, _, c, e, _⟩ := ht; rw [e]; rfl) (fun q W o hI => hI.keep sl.out ((But.refl (fun _ => False) W).alloc o) (fun _ e => e.elim)) (fun q W l o o' hl ho hc hI => hI.keep sl.out (put_but W l o') (fun q e => by subst e; exact ⟨hl, fun hcc => hcc.ne ho hc rfl⟩)) (fun c W o hX => hX.keep sl.out (by have := HZ1.out; omega) ((But.refl (fun _ => False) W).alloc o) (fun _ e => e.elim)) (fun c W l o o' hl ho hc hX => hX.keep sl.out (by have := HZ1.out; omega) (put_but W l o') (fun q e => by subst e; exact ⟨hl, fun hcc => hcc.ne ho hc rfl⟩)) (fun c W hX => hX.keep sl.out (by have := HZ1.out; omega) ((But.refl (fun _ => False) W).drew) (fun _ e => e.elim)) I0 ?round ?done ?stop
  case done =>
    rintro D' ⟨k, b⟩ W hD hfin hI hK
    obtain ⟨hbw, h2, r, hm, he⟩ := hI
    have e1 : rdO (hasB h.flg 2) bs r0 = (true, r) := by
      have h2 : b = false := h2
      have he : rdO (hasB h.flg 2) bs r0 = rdO (hasB h.flg 2) (bs.drop k) r := he
      rcases hfin with hf | hf
      · have hf : b = true := hf
        rw [h2] at hf
        cases hf
      · have hf : k = N := hf
        rw [he, hf, List.drop_of_length_le (by rw [HN.out]; exact Nat.le_refl _), rdO_nil]
    have r2 : W.cell? ⟨s + 1, 0, none⟩ = some (.bool true) := (hbw.cell (p := ⟨s + 1, 0, none⟩) (by have := HZ1.out; show s + 1 < _; omega) (fun e => by have e : s + 1 = sb := e; have := HS.out; have := HSB.out; omega)).trans CB.out
    have nD : ¬ Cel W D' := fun e => e.ne hK rfl rfl
    have bp := put_but W D' (.deferred none)
    have FE : Hid (RoM w sb h dv r (W.putObj D' (.deferred none)) ∧ But (Only sb) w (W.putObj D' (.deferred none))) := by
      have hm2 := hm.keep sl.out hbw.size bp (fun q e => ⟨fun e2 => by have := sl.out; omega, fun _ => by rw [e]; exact nD⟩)
      have zw : w.heap.size ≤ w1.heap.size := HB1.out.size
      obtain ⟨gv, hc1, hg1⟩ := hm2.row
      exact ⟨⟨hm2.fz, gv, hc1, hg1.own (fun q _ e => ⟨by have := e.1; omega, e.2⟩)⟩, ((But.of_below (K := Only sb) HB1.out).trans hbw).trans' bp (fun q hq e => by have := hbw.size; omega)⟩
    have E1 := hide e1
    have HK := hide hK
    clear hbw h2 hm he e1 hfin nD bp hD
    gi_wp2
    try simp only [Exit.noGoto]
    refine ⟨by simp, .inl ⟨_, _, rfl, run_takeDeferred HK.out, ?_⟩⟩
    rw [E1.out]
    exact ⟨_, results_tmp rfl _ _ _, rfl, FE.out.1, FE.out.2⟩
  case stop =>
    rintro D' c W hD ⟨rfl, hbw, hcx, hm⟩ hK
    obtain ⟨R, hR⟩ : ∃ R, R = rdO (hasB h.flg 2) bs r0 := ⟨_, rfl⟩
    rw [← hR] at hcx hm
    have HRR := hide hR
    have nD : ¬ Cel W D' := fun e => e.ne hK rfl rfl
    have bp := put_but W D' (.deferred none)
    have FE : Hid (RoM w sb h dv R.2 (W.putObj D' (.deferred none)) ∧ But (Only sb) w (W.putObj D' (.deferred none))) := by
      have hm2 := hm.keep sl.out hbw.size bp (fun q e => ⟨fun e2 => by have := sl.out; omega, fun _ => by rw [e]; exact nD⟩)
      have zw : w.heap.size ≤ w1.heap.size := HB1.out.size
      obtain ⟨gv, hc1, hg1⟩ := hm2.row
      exact ⟨⟨hm2.fz, gv, hc1, hg1.own (fun q _ e => ⟨by have := e.1; omega, e.2⟩)⟩, ((But.of_below (K := Only sb) HB1.out).trans' hbw (fun q hq e => by rcases e with e | e; exact e; have := HS.out; omega)).trans' bp (fun q hq e => by have := hbw.size; omega)⟩
    have HK := hide hK
    clear hbw hm nD bp hD hR
    gi_wp2
    try simp only [Exit.noGoto]
    refine ⟨by simp, .inl ⟨_, _, rfl, run_takeDeferred HK.out, ?_⟩⟩
    rw [← HRR.out]
    exact ⟨_, results_tmp rfl _ _ _, rfl, FE.out.1, FE.out.2⟩
  case round =>
    rintro l ⟨k, b⟩ args W' hlS hI ⟨hb, hkN, c, rfl, hzc⟩
    have hb : b = false := hb
    have hkN : k < N := hkN
    subst hb
    have HI := hide hI
    have HSZ := HZ1.out
    clear hI
    have hl : (bs.drop k).length = N - k := by rw [List.length_drop, HN.out]
    have zle := szT_le (bs.drop k) (by omega)
    have hzc : szT (bs.drop k) ≤ c := hzc
    obtain ⟨z, hz⟩ : ∃ z, z = szT (bs.drop k) := ⟨_, rfl⟩
    obtain ⟨x, hx⟩ : ∃ x, x = bs[k]?.getD 0 := ⟨_, rfl⟩
    have hz' : z = szT (bs.drop (k, false).1) := hz
    have hx' : x = bs[(k, false).1]?.getD 0 := hx
    rw [← hz', ← hx']
    rw [← hz] at zle hzc
    clear hz' hx'
    have x01 := HBY.out.getD k
    rw [← hx] at x01
    obtain ⟨X0, X1⟩ := x01
    have h00 : (bs.drop k)[0]?.getD 0 = x := by rw [List.getElem?_drop, Nat.add_zero, hx]
    have z40 : z ≤ 1000 := by omega
    have HZ := hide hz
    have HL := hide hl
    have HX0 := hide h00
    have HZLE := hide zle
    clear hz hx hl h00 HSZ zle
    gi_wp2
    refine ⟨KeepsFrom.refl _ _, ?_⟩
    intro o o' hoo hc
    have hI2 : RoI w1 sb h dv bs r0 (k, false) (W'.putObj l o') := HI.out.keep sl.out (put_but W' l o') (fun q e => by subst e; exact ⟨hlS, fun hcc => hcc.ne hoo hc rfl⟩)
    clear hoo hc HI
    generalize W'.putObj l o' = W2 at *
    obtain ⟨hbt, _, r, hm, he⟩ := hI2
    have he : rdO (hasB h.flg 2) bs r0 = rdO (hasB h.flg 2) (bs.drop k) r := he
    obtain ⟨gv, hcl, hgr⟩ := hm.row
    obtain ⟨ga, gc, rfl⟩ := hgr.shape
    obtain ⟨da, dn, dc, rfl⟩ := HDA.out
    have z1 := HZ1.out
    have hsx := HS.out
    have hsb2 := HSB.out
    have zW := hbt.size
    have nS : ¬ Only sb s := fun e => by have e : s = sb := e; omega
    have nS1 : ¬ Only sb (s + 1) := fun e => by have e : s + 1 = sb := e; omega
    have p2 : W2.cell? ⟨s, 0, none⟩ = some (.pointer (some ⟨sb, 0, none⟩)) := (hbt.cell (p := ⟨s, 0, none⟩) (by show s < _; omega) nS).trans CP.out
    have r2 : W2.cell? ⟨s + 1, 0, none⟩ = some (.bool true) := (hbt.cell (p := ⟨s + 1, 0, none⟩) (by show s + 1 < _; omega) nS1).trans CB.out
    have f2 : W2.frozen? ⟨s + 1, 0, none⟩ = false := (hbt.frozen (p := ⟨s + 1, 0, none⟩) (by show s + 1 < _; omega) nS1).trans FB.out
    obtain ⟨gn, hgn⟩ : ∃ gn, gn = r.got.length := ⟨_, rfl⟩
    rw [← hgn] at hcl hgr
    obtain ⟨syn, hsyn⟩ : ∃ syn, syn = hasB h.flg 2 := ⟨_, rfl⟩
    have HSYN := hide hsyn
    -- what lies in the segment, whatever was only read
    have SG : Hid (∀ W, Below W2.heap.size W2 W → CellsAt W sb 0 [.int .i64 h.src, .int .i64 h.dst, .int .u32 h.seq, .int .u32 h.ack, .int .i64 h.flg, .int .i64 h.wnd, .int .i64 r.mss, .bool r.sak, .slice ga gn gc, .slice da dn dc] ∧ W.cell? ⟨s, 0, none⟩ = some (.pointer (some ⟨sb, 0, none⟩)) ∧ ∀ y, W.frozen? ⟨sb, y, none⟩ = false) := fun W hW =>
      ⟨hcl.later (by omega) hW, (hW.cell (p := ⟨s, 0, none⟩) (by show s < _; omega)).trans p2, fun y => (hW.frozen (p := ⟨sb, y, none⟩) (by show sb < _; omega)).trans (hm.fz y)⟩
    have HAS : Hid (∀ W, Calls Try.prog 26 #[.agg #[.int .i64 h.src, .int .i64 h.dst, .int .u32 h.seq, .int .u32 h.ack, .int .i64 h.flg, .int .i64 h.wnd, .int .i64 r.mss, .bool r.sak, .slice ga gn gc, .slice da dn dc], .int .i64 2] W fun e w' => e = .returned (.bool syn) ∧ Below W.heap.size W w') := fun W => by rw [hsyn]; exact has_any (h.ro r) (.slice ga gn gc) (.slice da dn dc) 1 (by decide) W
    -- nothing said, and on
    have ON : Hid (x ≠ 0 → z ≠ 0 → ∀ (r' : Ro) (W3 : World), oneO syn ((bs.drop k).take z) r = r' → RoM w1 sb h (.slice da dn dc) r' W3 → But (Only sb) W2 W3 → KeepsFrom w1.heap.size W2 W3 ∧ ∃ s', s' = (k + z, decide (z = 0)) ∧ RoI w1 sb h (.slice da dn dc) bs r0 s' W3) := fun x0 z0 r' W3 ho hm3 hb3 =>
      ⟨KeepsFrom.of_but hb3 (fun q e => by have e : q = sb := e; rw [e]; exact cells_of_cell (hcl 0 _ rfl)), _, rfl, hbt.trans hb3, decide_eq_false z0, r', hm3, by
        rw [he, ← hsyn, rdO_more (by have := HL.out; omega) (by rw [HX0.out]; exact x0) (by rw [← HZ.out]; exact z0), ← HZ.out, ho, List.drop_drop]⟩
    have KM : Hid (∀ W, Below W2.heap.size W2 W → RoM w1 sb h (.slice da dn dc) r W ∧ But (Only sb) W2 W) := fun W hW =>
      ⟨hm.keep sl.out zW (But.of_below (K := fun _ => False) hW) (fun _ e => e.elim), But.of_below hW⟩
    have EX : Hid (∀ (v : Bool) (W3 : World), rdO syn bs r0 = (v, r) → W3.cell? ⟨s + 1, 0, none⟩ = some (.bool v) → But (Only (s + 1)) W2 W3 → KeepsFrom w1.heap.size W2 W3 ∧ RoX w1 s sb h (.slice da dn dc) bs r0 0 (.exit 0) W3) := fun v W3 hv hc3 hb3 => by
      rw [hsyn] at hv
      refine ⟨KeepsFrom.of_but hb3 (fun q e => by have e : q = s + 1 := e; rw [e]; exact cells_of_cell r2), rfl, (hbt.mono (fun q e => .inl e)).trans (hb3.mono (fun q e => .inr e)), by rw [hc3, hv], ?_⟩
      rw [hv]
      exact hm.keep sl.out zW hb3 (fun q e => by have e : q = s + 1 := e; exact ⟨by omega, fun e2 => by omega⟩)
    have ENDE : Hid (x = 0 → rdO syn bs r0 = (true, r)) := fun x0 => by
      rw [hsyn, he]
      exact rdO_end (by have := HL.out; omega) (by rw [HX0.out]; exact x0)
    have BADE : Hid (x ≠ 0 → z = 0 → rdO syn bs r0 = (false, r)) := fun x0 z0 => by
      rw [hsyn, he]
      exact rdO_bad (by have := HL.out; omega) (by rw [HX0.out]; exact x0) (by rw [← HZ.out]; exact z0)
    have NB0 : Hid (z ≠ 0 → nb ((bs.drop k).take z) 0 = x) := fun z0 => by
      unfold nb
      rw [List.getElem?_take, if_pos (by omega), HX0.out]
    have OL : Hid (((bs.drop k).take z).length = z) := by unfold Hid; rw [List.length_take]; have := HZLE.out; have := HL.out; omega
    have IO : Hid (∀ W, Below W2.heap.size W2 W → IsB W.heap.size W (.slice (some ⟨g, off + k, none⟩) z c) ((bs.drop k).take z)) := fun W hW => by
      have gl := HGL.out (by omega)
      have gs := HGS.out (by omega)
      have ol := OL.out
      refine ⟨_, c, by rw [ol], by rw [ol]; exact hzc, (fun e => by cases e), fun h0 => ⟨g, off + k, rfl, by have := hW.size; omega, fun i hi => ?_⟩⟩
      rw [ol] at hi
      have hlk := HL.out
      have hzl := HZLE.out
      have e1 : W.cell? ⟨g, off + (k + i), none⟩ = W2.cell? ⟨g, off + (k + i), none⟩ := hW.cell (p := ⟨g, off + (k + i), none⟩) (by show g < _; omega)
      rw [Nat.add_assoc, e1, (hbt.cell (p := ⟨g, off + (k + i), none⟩) (by show g < _; omega) gs), HCS.out (k + i) (by omega), List.getElem?_take, if_pos hi, List.getElem?_drop]
    have BO : Hid (Bytes ((bs.drop k).take z)) := (HBY.out.drop _).take _
    have CKEEP : Hid (∀ W, Below W2.heap.size W2 W → CG (fun g => w1.heap.size ≤ g ∧ Cel W g) W (.slice ga gn gc) r.got) := fun W hW => (hgr.later hW).own (fun q _ e => ⟨e.1, e.2.but (But.of_below (K := fun _ => False) hW) id⟩)
    clear hbt he hcl hgr hm hgn hsyn HCS z1 hsx
    by_cases x0 : x = 0
    · have q0 : (x == 0) = true := by rw [x0]; rfl
      have F := hide (EX.out true W2 (ENDE.out x0) r2 (But.refl _ _))
      clear x0 ENDE BADE EX ON KM
      gi_wp2
      exact F.out
    have q0 : (x == 0) = false := by simpa using x0
    by_cases z0 : z = 0
    · have q1 : ((z : Int) == 0) = true := by rw [z0]; rfl
      have e1 := BADE.out x0 z0
      have F := hide (EX.out false (W2.setCell ⟨s + 1, 0, none⟩ (.bool false)) e1 (World.cell?_setCell_same _ _ _ r2) ((But.refl (Only (s + 1)) W2).cellb (b := s + 1) rfl 0 _))
      clear x0 z0 ENDE BADE EX ON KM e1
      gi_wp2
      exact F.out
    have q1 : ((z : Int) == 0) = false := by simpa using z0
    have nb0 := NB0.out z0
    have ON2 := hide (ON.out x0 z0)
    clear ENDE BADE EX ON NB0 z0
    obtain ⟨op, hop⟩ : ∃ op, op = (bs.drop k).take z := ⟨_, rfl⟩
    rw [← hop] at ON2 nb0 OL IO BO
    have HOP := hide hop
    clear hop
    have ONE : Hid (∀ r, oneO syn op r = if x = 2 ∧ z = 4 ∧ syn = true then { r with mss := w16 op 2 } else if x = 4 ∧ z = 2 ∧ syn = true then { r with sak := true } else if x = 5 ∧ areS z = true then { r with got := spL (op.drop 2) ((z - 2) / 8) } else r) := fun r => by
      unfold oneO
      rw [nb0, OL.out]
    have ONM : Hid (x = 2 → z = 4 → syn = true → oneO syn op r = { r with mss := w16 op 2 }) := fun h1 h2 h3 => by rw [ONE.out, if_pos ⟨h1, h2, h3⟩]
    have ONS : Hid (x = 4 → z = 2 → syn = true → oneO syn op r = { r with sak := true }) := fun h1 h2 h3 => by rw [ONE.out, if_neg (fun e => by omega), if_pos ⟨h1, h2, h3⟩]
    have ONG : Hid (x = 5 → areS z = true → oneO syn op r = { r with got := spL (op.drop 2) ((z - 2) / 8) }) := fun h1 h2 => by rw [ONE.out, if_neg (fun e => by omega), if_neg (fun e => by omega), if_pos ⟨h1, h2⟩]
    have ONN : Hid (¬ (x = 2 ∧ z = 4 ∧ syn = true) → ¬ (x = 4 ∧ z = 2 ∧ syn = true) → ¬ (x = 5 ∧ areS z = true) → oneO syn op r = r) := fun h1 h2 h3 => by rw [ONE.out, if_neg h1, if_neg h2, if_neg h3]
    have HX00 := hide x0
    clear ONE
    clear nb0 x0
    by_cases hx : x = 2
    · have q2 : (x == 2) = true := by rw [hx]; rfl
      have q4 : (x == 4) = false := by rw [hx]; rfl
      have q5 : (x == 5) = false := by rw [hx]; rfl
      by_cases hz4 : z = 4
      · have s4 : ((z : Int) == 4) = true := by rw [hz4]; rfl
        have HX2 := hide hx
        have HZ4 := hide hz4
        clear hx hz4
        obtain ⟨sg, _, _⟩ := SG.out W2 (Below.refl _ _)
        have c0 : W2.cell? ⟨sb, 0, none⟩ = some (.int .i64 h.src) := sg 0 _ rfl
        have c1 : W2.cell? ⟨sb, 1, none⟩ = some (.int .i64 h.dst) := sg 1 _ rfl
        have c2 : W2.cell? ⟨sb, 2, none⟩ = some (.int .u32 h.seq) := sg 2 _ rfl
        have c3 : W2.cell? ⟨sb, 3, none⟩ = some (.int .u32 h.ack) := sg 3 _ rfl
        have c4 : W2.cell? ⟨sb, 4, none⟩ = some (.int .i64 h.flg) := sg 4 _ rfl
        have c5 : W2.cell? ⟨sb, 5, none⟩ = some (.int .i64 h.wnd) := sg 5 _ rfl
        have c6 : W2.cell? ⟨sb, 6, none⟩ = some (.int .i64 r.mss) := sg 6 _ rfl
        have c7 : W2.cell? ⟨sb, 7, none⟩ = some (.bool r.sak) := sg 7 _ rfl
        have c8 : W2.cell? ⟨sb, 8, none⟩ = some (.slice ga gn gc) := sg 8 _ rfl
        have c9 : W2.cell? ⟨sb, 9, none⟩ = some (.slice da dn dc) := sg 9 _ rfl
        clear sg
        have G := hide (HAS.out W2)
        gi_wp2_with fail
        refine ⟨trivial, fun h => by simp [Fence.wide] at h, ?_⟩
        refine (callsIn_round G.out).mono ?_
        rintro _ w3 ⟨rfl, b3⟩
        have B3 := hide b3
        clear c0 c1 c2 c3 c4 c5 c6 c7 c8 c9 b3 G p2
        cases syn with
        | true =>
          have A16 : Hid (∀ W, Below W2.heap.size W2 W → Calls Try.prog 57 #[.slice (some ⟨g, off + k, none⟩) z c, .int .i64 2] W fun e w' => e = .returned (.int .i64 (w16 op 2)) ∧ Below W.heap.size W w') := fun W hW => at16_any _ op 2 W (IO.out W hW) BO.out (by rw [OL.out]; omega) (by rw [OL.out, HZ4.out]; decide)
          obtain ⟨sgx, p3, sf3⟩ := SG.out w3 B3.out
          have sl3 : sb < w3.heap.size := by have := B3.out.size; have := sl.out; omega
          gi_wp2_with fail
          refine regionJ_in (fun i => decide (i ≤ 4)) (fun W => W.cell? ⟨s, 0, none⟩ = some (.pointer (some ⟨sb, 0, none⟩))) (by kernel_rfl) (by kernel_rfl) ?_
          refine takeJ (i := 0) (v := .pointer (some ⟨sb, 0, none⟩)) 33 rfl rfl (by kernel_rfl) (by kernel_rfl) (by kernel_rfl) (by kernel_rfl) (fun _ _ _ h => h) (.inl ⟨by rfl, fun W hW => exec_load1 63 oneSgp _ rfl s 0 rfl (.pointer (some ⟨sb, 0, none⟩)) (hW)⟩) (p3) ?_
          try simp only [Act.put, List.setIfInBounds_toArray, List.set_cons_zero, List.set_cons_succ]
          refine takeJ (i := 1) (v := .slice (some ⟨g, off + k, none⟩) z c) 34 rfl rfl (by kernel_rfl) (by kernel_rfl) (by kernel_rfl) (by kernel_rfl) (fun _ _ _ h => h) (.inl ⟨by rfl, fun W hW => exec_move _ _ rfl rfl⟩) (p3) ?_
          try simp only [Act.put, List.setIfInBounds_toArray, List.set_cons_zero, List.set_cons_succ]
          refine callJ 2 35 (by kernel_rfl) rfl rfl (by rfl) 57 #[.slice (some ⟨g, off + k, none⟩) z c, .int .i64 2] (exec_callF _ _ _ _ rfl (map2 rfl rfl) (enters_of Try.func57 (by kernel_rfl) rfl)) (fun v w9 => v = .int .i64 (w16 op 2) ∧ Below W2.heap.size W2 w9) ((A16.out _ (later B3.out (later_drew _))).mono (fun e w' h => ⟨_, h.1, rfl, later (later B3.out (later_drew _)) h.2⟩)) ?_
          rintro v w4 ⟨rfl, b4⟩
          have B4 := hide b4
          obtain ⟨sg4, p4, sf4⟩ := SG.out w4 b4
          refine ⟨p4, ?_⟩
          simp only [Act.put, List.setIfInBounds_toArray, List.set_cons_zero, List.set_cons_succ]
          refine nextJ (w' := w4) 3 36 (.pointer (some ⟨sb, 0, none⟩)) (by kernel_rfl) rfl rfl (by rfl) (exec_nilS _ sb rfl rfl) (p4) ?_
          try simp only [Act.put, List.setIfInBounds_toArray, List.set_cons_zero, List.set_cons_succ]
          refine nextJ (w' := w4) 4 37 (.pointer (some ⟨sb, 6, none⟩)) (by kernel_rfl) rfl rfl (by rfl) (exec_fieldO 26 _ 6 sb 0 6 rfl rfl (fun w => by kernel_rfl)) (p4) ?_
          try simp only [Act.put, List.setIfInBounds_toArray, List.set_cons_zero, List.set_cons_succ]
          obtain ⟨wG, hwG⟩ : ∃ wG, wG = w4.setCell ⟨sb, 6, none⟩ (.int .i64 (w16 op 2)) := ⟨_, rfl⟩
          refine storeJ (w' := wG) 5 (by kernel_rfl) rfl rfl (by rfl) (by rw [hwG]; exact exec_store1 3 s1J _ _ rfl sb 6 rfl _ _ rfl (sg4 6 _ rfl) (sf4 6) rfl) (by simp) ?_
          refine doneJW (by kernel_rfl) _ ?_
          have nG : But (Only sb) w4 wG := by rw [hwG]; exact (But.refl (Only sb) w4).setCell (p := ⟨sb, 6, none⟩) (.inr rfl) _
          have RMG : RoM w1 sb h (.slice da dn dc) ({ r with mss := w16 op 2 }) wG := by
            obtain ⟨sg, _, sf⟩ := SG.out _ B4.out
            refine ⟨fun y => by rw [hwG, World.frozen?_setCell]; exact sf y, _, by rw [hwG]; exact sg.set 6 _, ((CKEEP.out w4 B4.out).but nG (fun q e e2 => by have e2 : q = sb := e2; have := e.1; have := sl.out; omega)).own (fun q _ e => ⟨e.1, e.2.but nG (fun e2 => by have e2 : q = sb := e2; have := e.1; have := sl.out; omega)⟩)⟩
          have F : Hid (KeepsFrom w1.heap.size W2 wG ∧ RoI w1 sb h (.slice da dn dc) bs r0 (k + z, decide (z = 0)) wG) := by
            obtain ⟨f1, s', rfl, f2⟩ := ON2.out _ wG (ONM.out HX2.out HZ4.out (by simp)) RMG ((KM.out _ B4.out).2.trans nG)
            exact ⟨f1, f2⟩
          clear sg4 p4 sf4 hwG nG RMG
          gi_wp2
          first | exact F.out | exact ⟨F.out.1, _, rfl, F.out.2⟩
        | false =>
          have e1 := ONN.out (fun e => by simp at e) (fun e => by have := e.1; have := HX2.out; omega) (fun e => by have := e.1; have := HX2.out; omega)
          have F : Hid (KeepsFrom w1.heap.size W2 w3 ∧ RoI w1 sb h (.slice da dn dc) bs r0 (k + z, decide (z = 0)) w3) := by
            obtain ⟨f1, s', rfl, f2⟩ := ON2.out r w3 e1 (KM.out _ B3.out).1 (KM.out _ B3.out).2
            exact ⟨f1, f2⟩
          clear e1 ON2
          gi_upto_region 10 with fail
          refine wpIn_region_lit ?_
          refine listRV 39 (.int .u8 x) (by rfl) rfl rfl (exec_move _ _ rfl rfl) ?_
          simp only [Act.put, List.setIfInBounds_toArray, List.set_cons_zero, List.set_cons_succ]
          refine listRV 40 (.bool false) (by rfl) rfl rfl (exec_eqlU _ _ _ _ _ _ rfl rfl rfl q4) ?_
          simp only [Act.put, List.setIfInBounds_toArray, List.set_cons_zero, List.set_cons_succ]
          refine listRV 41 (.bool false) (by rfl) rfl rfl (exec_move _ _ rfl rfl) ?_
          simp only [Act.put, List.setIfInBounds_toArray, List.set_cons_zero, List.set_cons_succ]
          refine listRS (by rfl) ?_
          simp only [Act.put, List.setIfInBounds_toArray, List.set_cons_zero, List.set_cons_succ]
          refine listRS (by rfl) ?_
          simp only [Act.put, List.setIfInBounds_toArray, List.set_cons_zero, List.set_cons_succ]
          refine listRS (by rfl) ?_
          simp only [Act.put, List.setIfInBounds_toArray, List.set_cons_zero, List.set_cons_succ]
          refine listRV 45 (.bool false) (by rfl) rfl rfl (exec_pick _ _ _ false _ rfl rfl rfl) ?_
          simp only [Act.put, List.setIfInBounds_toArray, List.set_cons_zero, List.set_cons_succ]
          refine listRV 46 (.bool false) (by rfl) rfl rfl (exec_move _ _ rfl rfl) ?_
          simp only [Act.put, List.setIfInBounds_toArray, List.set_cons_zero, List.set_cons_succ]
          refine listRS (by rfl) ?_
          simp only [Act.put, List.setIfInBounds_toArray, List.set_cons_zero, List.set_cons_succ]
          refine listRS (by rfl) ?_
          simp only [Act.put, List.setIfInBounds_toArray, List.set_cons_zero, List.set_cons_succ]
          refine listRS (by rfl) ?_
          simp only [Act.put, List.setIfInBounds_toArray, List.set_cons_zero, List.set_cons_succ]
          refine listRS (by rfl) ?_
          simp only [Act.put, List.setIfInBounds_toArray, List.set_cons_zero, List.set_cons_succ]
          refine listRV 51 (.bool false) (by rfl) rfl rfl (exec_pick _ _ _ false _ rfl rfl rfl) ?_
          simp only [Act.put, List.setIfInBounds_toArray, List.set_cons_zero, List.set_cons_succ]
          refine listRV 38 (.bool false) (by rfl) rfl rfl (exec_assign _ _ rfl rfl) ?_
          simp only [Act.put, List.setIfInBounds_toArray, List.set_cons_zero, List.set_cons_succ]
          gi_upto_region 12 with fail
          refine wpIn_region_lit ?_
          refine listRV 56 (.int .u8 x) (by rfl) rfl rfl (exec_move _ _ rfl rfl) ?_
          simp only [Act.put, List.setIfInBounds_toArray, List.set_cons_zero, List.set_cons_succ]
          refine listRV 57 (.bool false) (by rfl) rfl rfl (exec_eqlU _ _ _ _ _ _ rfl rfl rfl q5) ?_
          simp only [Act.put, List.setIfInBounds_toArray, List.set_cons_zero, List.set_cons_succ]
          refine listRV 58 (.bool false) (by rfl) rfl rfl (exec_move _ _ rfl rfl) ?_
          simp only [Act.put, List.setIfInBounds_toArray, List.set_cons_zero, List.set_cons_succ]
          refine listRS (by rfl) ?_
          simp only [Act.put, List.setIfInBounds_toArray, List.set_cons_zero, List.set_cons_succ]
          refine listRS (by rfl) ?_
          simp only [Act.put, List.setIfInBounds_toArray, List.set_cons_zero, List.set_cons_succ]
          refine listRS (by rfl) ?_
          simp only [Act.put, List.setIfInBounds_toArray, List.set_cons_zero, List.set_cons_succ]
          refine listRV 62 (.bool false) (by rfl) rfl rfl (exec_pick _ _ _ false _ rfl rfl rfl) ?_
          simp only [Act.put, List.setIfInBounds_toArray, List.set_cons_zero, List.set_cons_succ]
          refine listRV 55 (.bool false) (by rfl) rfl rfl (exec_assign _ _ rfl rfl) ?_
          simp only [Act.put, List.setIfInBounds_toArray, List.set_cons_zero, List.set_cons_succ]
          gi_wp2
          first | exact F.out | exact ⟨F.out.1, _, rfl, F.out.2⟩
      · have s4 : ((z : Int) == 4) = false := by simp; omega
        have e1 := ONN.out (fun e => hz4 e.2.1) (fun e => by have := e.1; omega) (fun e => by have := e.1; omega)
        have F : Hid (KeepsFrom w1.heap.size W2 W2 ∧ RoI w1 sb h (.slice da dn dc) bs r0 (k + z, decide (z = 0)) W2) := by
          obtain ⟨f1, s', rfl, f2⟩ := ON2.out r W2 e1 (KM.out _ (Below.refl _ _)).1 (KM.out _ (Below.refl _ _)).2
          exact ⟨f1, f2⟩
        clear e1 ON2
        clear hx hz4
        gi_upto_region 8 with fail
        refine wpIn_region_lit ?_
        refine listRV 20 (.int .u8 x) (by rfl) rfl rfl (exec_move _ _ rfl rfl) ?_
        simp only [Act.put, List.setIfInBounds_toArray, List.set_cons_zero, List.set_cons_succ]
        refine listRV 21 (.bool true) (by rfl) rfl rfl (exec_eqlU _ _ _ _ _ _ rfl rfl rfl q2) ?_
        simp only [Act.put, List.setIfInBounds_toArray, List.set_cons_zero, List.set_cons_succ]
        refine listRV 22 (.bool true) (by rfl) rfl rfl (exec_move _ _ rfl rfl) ?_
        simp only [Act.put, List.setIfInBounds_toArray, List.set_cons_zero, List.set_cons_succ]
        refine listRV 23 (.slice (some ⟨g, off + k, none⟩) z c) (by rfl) rfl rfl (exec_move _ _ rfl rfl) ?_
        simp only [Act.put, List.setIfInBounds_toArray, List.set_cons_zero, List.set_cons_succ]
        refine listRV 24 (.int .i64 (z : Int)) (by rfl) rfl rfl (exec_len _ _ _ _ _ rfl rfl rfl) ?_
        simp only [Act.put, List.setIfInBounds_toArray, List.set_cons_zero, List.set_cons_succ]
        refine listRV 25 (.bool false) (by rfl) rfl rfl (exec_eqi _ _ _ _ _ _ rfl rfl rfl s4) ?_
        simp only [Act.put, List.setIfInBounds_toArray, List.set_cons_zero, List.set_cons_succ]
        refine listRV 26 (.bool false) (by rfl) rfl rfl (exec_pick _ _ _ true _ rfl rfl rfl) ?_
        simp only [Act.put, List.setIfInBounds_toArray, List.set_cons_zero, List.set_cons_succ]
        refine listRV 27 (.bool false) (by rfl) rfl rfl (exec_move _ _ rfl rfl) ?_
        simp only [Act.put, List.setIfInBounds_toArray, List.set_cons_zero, List.set_cons_succ]
        refine listRS (by rfl) ?_
        simp only [Act.put, List.setIfInBounds_toArray, List.set_cons_zero, List.set_cons_succ]
        refine listRS (by rfl) ?_
        simp only [Act.put, List.setIfInBounds_toArray, List.set_cons_zero, List.set_cons_succ]
        refine listRS (by rfl) ?_
        simp only [Act.put, List.setIfInBounds_toArray, List.set_cons_zero, List.set_cons_succ]
        refine listRS (by rfl) ?_
        simp only [Act.put, List.setIfInBounds_toArray, List.set_cons_zero, List.set_cons_succ]
        refine listRV 32 (.bool false) (by rfl) rfl rfl (exec_pick _ _ _ false _ rfl rfl rfl) ?_
        simp only [Act.put, List.setIfInBounds_toArray, List.set_cons_zero, List.set_cons_succ]
        refine listRV 19 (.bool false) (by rfl) rfl rfl (exec_assign _ _ rfl rfl) ?_
        simp only [Act.put, List.setIfInBounds_toArray, List.set_cons_zero, List.set_cons_succ]
        gi_upto_region 10 with fail
        refine wpIn_region_lit ?_
        refine listRV 39 (.int .u8 x) (by rfl) rfl rfl (exec_move _ _ rfl rfl) ?_
        simp only [Act.put, List.setIfInBounds_toArray, List.set_cons_zero, List.set_cons_succ]
        refine listRV 40 (.bool false) (by rfl) rfl rfl (exec_eqlU _ _ _ _ _ _ rfl rfl rfl q4) ?_
        simp only [Act.put, List.setIfInBounds_toArray, List.set_cons_zero, List.set_cons_succ]
        refine listRV 41 (.bool false) (by rfl) rfl rfl (exec_move _ _ rfl rfl) ?_
        simp only [Act.put, List.setIfInBounds_toArray, List.set_cons_zero, List.set_cons_succ]
        refine listRS (by rfl) ?_
        simp only [Act.put, List.setIfInBounds_toArray, List.set_cons_zero, List.set_cons_succ]
        refine listRS (by rfl) ?_
        simp only [Act.put, List.setIfInBounds_toArray, List.set_cons_zero, List.set_cons_succ]
        refine listRS (by rfl) ?_
        simp only [Act.put, List.setIfInBounds_toArray, List.set_cons_zero, List.set_cons_succ]
        refine listRV 45 (.bool false) (by rfl) rfl rfl (exec_pick _ _ _ false _ rfl rfl rfl) ?_
        simp only [Act.put, List.setIfInBounds_toArray, List.set_cons_zero, List.set_cons_succ]
        refine listRV 46 (.bool false) (by rfl) rfl rfl (exec_move _ _ rfl rfl) ?_
        simp only [Act.put, List.setIfInBounds_toArray, List.set_cons_zero, List.set_cons_succ]
        refine listRS (by rfl) ?_
        simp only [Act.put, List.setIfInBounds_toArray, List.set_cons_zero, List.set_cons_succ]
        refine listRS (by rfl) ?_
        simp only [Act.put, List.setIfInBounds_toArray, List.set_cons_zero, List.set_cons_succ]
        refine listRS (by rfl) ?_
        simp only [Act.put, List.setIfInBounds_toArray, List.set_cons_zero, List.set_cons_succ]
        refine listRS (by rfl) ?_
        simp only [Act.put, List.setIfInBounds_toArray, List.set_cons_zero, List.set_cons_succ]
        refine listRV 51 (.bool false) (by rfl) rfl rfl (exec_pick _ _ _ false _ rfl rfl rfl) ?_
        simp only [Act.put, List.setIfInBounds_toArray, List.set_cons_zero, List.set_cons_succ]
        refine listRV 38 (.bool false) (by rfl) rfl rfl (exec_assign _ _ rfl rfl) ?_
        simp only [Act.put, List.setIfInBounds_toArray, List.set_cons_zero, List.set_cons_succ]
        gi_upto_region 12 with fail
        refine wpIn_region_lit ?_
        refine listRV 56 (.int .u8 x) (by rfl) rfl rfl (exec_move _ _ rfl rfl) ?_
        simp only [Act.put, List.setIfInBounds_toArray, List.set_cons_zero, List.set_cons_succ]
        refine listRV 57 (.bool false) (by rfl) rfl rfl (exec_eqlU _ _ _ _ _ _ rfl rfl rfl q5) ?_
        simp only [Act.put, List.setIfInBounds_toArray, List.set_cons_zero, List.set_cons_succ]
        refine listRV 58 (.bool false) (by rfl) rfl rfl (exec_move _ _ rfl rfl) ?_
        simp only [Act.put, List.setIfInBounds_toArray, List.set_cons_zero, List.set_cons_succ]
        refine listRS (by rfl) ?_
        simp only [Act.put, List.setIfInBounds_toArray, List.set_cons_zero, List.set_cons_succ]
        refine listRS (by rfl) ?_
        simp only [Act.put, List.setIfInBounds_toArray, List.set_cons_zero, List.set_cons_succ]
        refine listRS (by rfl) ?_
        simp only [Act.put, List.setIfInBounds_toArray, List.set_cons_zero, List.set_cons_succ]
        refine listRV 62 (.bool false) (by rfl) rfl rfl (exec_pick _ _ _ false _ rfl rfl rfl) ?_
        simp only [Act.put, List.setIfInBounds_toArray, List.set_cons_zero, List.set_cons_succ]
        refine listRV 55 (.bool false) (by rfl) rfl rfl (exec_assign _ _ rfl rfl) ?_
        simp only [Act.put, List.setIfInBounds_toArray, List.set_cons_zero, List.set_cons_succ]
        gi_wp2
        first | exact F.out | exact ⟨F.out.1, _, rfl, F.out.2⟩
    by_cases hx4 : x = 4
    · clear hx
      have hx := hx4
      have q2 : (x == 2) = false := by rw [hx]; rfl
      have q4 : (x == 4) = true := by rw [hx]; rfl
      have q5 : (x == 5) = false := by rw [hx]; rfl
      clear hx4
      by_cases hz4 : z = 2
      · have s4 : ((z : Int) == 2) = true := by rw [hz4]; rfl
        have HX2 := hide hx
        have HZ4 := hide hz4
        clear hx hz4
        obtain ⟨sg, _, _⟩ := SG.out W2 (Below.refl _ _)
        have c0 : W2.cell? ⟨sb, 0, none⟩ = some (.int .i64 h.src) := sg 0 _ rfl
        have c1 : W2.cell? ⟨sb, 1, none⟩ = some (.int .i64 h.dst) := sg 1 _ rfl
        have c2 : W2.cell? ⟨sb, 2, none⟩ = some (.int .u32 h.seq) := sg 2 _ rfl
        have c3 : W2.cell? ⟨sb, 3, none⟩ = some (.int .u32 h.ack) := sg 3 _ rfl
        have c4 : W2.cell? ⟨sb, 4, none⟩ = some (.int .i64 h.flg) := sg 4 _ rfl
        have c5 : W2.cell? ⟨sb, 5, none⟩ = some (.int .i64 h.wnd) := sg 5 _ rfl
        have c6 : W2.cell? ⟨sb, 6, none⟩ = some (.int .i64 r.mss) := sg 6 _ rfl
        have c7 : W2.cell? ⟨sb, 7, none⟩ = some (.bool r.sak) := sg 7 _ rfl
        have c8 : W2.cell? ⟨sb, 8, none⟩ = some (.slice ga gn gc) := sg 8 _ rfl
        have c9 : W2.cell? ⟨sb, 9, none⟩ = some (.slice da dn dc) := sg 9 _ rfl
        clear sg
        gi_upto_region 8 with fail
        refine wpIn_region_lit ?_
        refine listRV 20 (.int .u8 x) (by rfl) rfl rfl (exec_move _ _ rfl rfl) ?_
        simp only [Act.put, List.setIfInBounds_toArray, List.set_cons_zero, List.set_cons_succ]
        refine listRV 21 (.bool false) (by rfl) rfl rfl (exec_eqlU _ _ _ _ _ _ rfl rfl rfl q2) ?_
        simp only [Act.put, List.setIfInBounds_toArray, List.set_cons_zero, List.set_cons_succ]
        refine listRV 22 (.bool false) (by rfl) rfl rfl (exec_move _ _ rfl rfl) ?_
        simp only [Act.put, List.setIfInBounds_toArray, List.set_cons_zero, List.set_cons_succ]
        refine listRS (by rfl) ?_
        simp only [Act.put, List.setIfInBounds_toArray, List.set_cons_zero, List.set_cons_succ]
        refine listRS (by rfl) ?_
        simp only [Act.put, List.setIfInBounds_toArray, List.set_cons_zero, List.set_cons_succ]
        refine listRS (by rfl) ?_
        simp only [Act.put, List.setIfInBounds_toArray, List.set_cons_zero, List.set_cons_succ]
        refine listRV 26 (.bool false) (by rfl) rfl rfl (exec_pick _ _ _ false _ rfl rfl rfl) ?_
        simp only [Act.put, List.setIfInBounds_toArray, List.set_cons_zero, List.set_cons_succ]
        refine listRV 27 (.bool false) (by rfl) rfl rfl (exec_move _ _ rfl rfl) ?_
        simp only [Act.put, List.setIfInBounds_toArray, List.set_cons_zero, List.set_cons_succ]
        refine listRS (by rfl) ?_
        simp only [Act.put, List.setIfInBounds_toArray, List.set_cons_zero, List.set_cons_succ]
        refine listRS (by rfl) ?_
        simp only [Act.put, List.setIfInBounds_toArray, List.set_cons_zero, List.set_cons_succ]
        refine listRS (by rfl) ?_
        simp only [Act.put, List.setIfInBounds_toArray, List.set_cons_zero, List.set_cons_succ]
        refine listRS (by rfl) ?_
        simp only [Act.put, List.setIfInBounds_toArray, List.set_cons_zero, List.set_cons_succ]
        refine listRV 32 (.bool false) (by rfl) rfl rfl (exec_pick _ _ _ false _ rfl rfl rfl) ?_
        simp only [Act.put, List.setIfInBounds_toArray, List.set_cons_zero, List.set_cons_succ]
        refine listRV 19 (.bool false) (by rfl) rfl rfl (exec_assign _ _ rfl rfl) ?_
        simp only [Act.put, List.setIfInBounds_toArray, List.set_cons_zero, List.set_cons_succ]
        have G := hide (HAS.out W2)
        gi_wp2_with fail
        refine ⟨trivial, fun h => by simp [Fence.wide] at h, ?_⟩
        refine (callsIn_round G.out).mono ?_
        rintro _ w3 ⟨rfl, b3⟩
        have B3 := hide b3
        clear c0 c1 c2 c3 c4 c5 c6 c7 c8 c9 b3 G p2
        cases syn with
        | true =>
          obtain ⟨sg4, p4, sf4⟩ := SG.out w3 B3.out
          have k7 : w3.cell? ⟨sb, 7, none⟩ = some (.bool r.sak) := sg4 7 _ rfl
          have f7 := sf4 7
          obtain ⟨wG, hwG⟩ : ∃ wG, wG = w3.setCell ⟨sb, 7, none⟩ (.bool true) := ⟨_, rfl⟩
          have nG : But (Only sb) w3 wG := by rw [hwG]; exact (But.refl (Only sb) w3).setCell (p := ⟨sb, 7, none⟩) (.inr rfl) _
          have RMG : RoM w1 sb h (.slice da dn dc) ({ r with sak := true }) wG := by
            obtain ⟨sg, _, sf⟩ := SG.out _ B3.out
            refine ⟨fun y => by rw [hwG, World.frozen?_setCell]; exact sf y, _, by rw [hwG]; exact sg.set 7 _, ((CKEEP.out w3 B3.out).but nG (fun q e e2 => by have e2 : q = sb := e2; have := e.1; have := sl.out; omega)).own (fun q _ e => ⟨e.1, e.2.but nG (fun e2 => by have e2 : q = sb := e2; have := e.1; have := sl.out; omega)⟩)⟩
          have F : Hid (KeepsFrom w1.heap.size W2 wG ∧ RoI w1 sb h (.slice da dn dc) bs r0 (k + z, decide (z = 0)) wG) := by
            obtain ⟨f1, s', rfl, f2⟩ := ON2.out _ wG (ONS.out HX2.out HZ4.out (by simp)) RMG ((KM.out _ B3.out).2.trans nG)
            exact ⟨f1, f2⟩
          rw [hwG] at F
          clear sg4 sf4 nG RMG hwG wG ON2
          gi_wp2
          first | exact F.out | exact ⟨F.out.1, _, rfl, F.out.2⟩
        | false =>
          have e1 := ONN.out (fun e => by have := e.1; have := HX2.out; omega) (fun e => by simp at e) (fun e => by have := e.1; have := HX2.out; omega)
          have F : Hid (KeepsFrom w1.heap.size W2 w3 ∧ RoI w1 sb h (.slice da dn dc) bs r0 (k + z, decide (z = 0)) w3) := by
            obtain ⟨f1, s', rfl, f2⟩ := ON2.out r w3 e1 (KM.out _ B3.out).1 (KM.out _ B3.out).2
            exact ⟨f1, f2⟩
          clear e1 ON2
          gi_upto_region 12 with fail
          refine wpIn_region_lit ?_
          refine listRV 56 (.int .u8 x) (by rfl) rfl rfl (exec_move _ _ rfl rfl) ?_
          simp only [Act.put, List.setIfInBounds_toArray, List.set_cons_zero, List.set_cons_succ]
          refine listRV 57 (.bool false) (by rfl) rfl rfl (exec_eqlU _ _ _ _ _ _ rfl rfl rfl q5) ?_
          simp only [Act.put, List.setIfInBounds_toArray, List.set_cons_zero, List.set_cons_succ]
          refine listRV 58 (.bool false) (by rfl) rfl rfl (exec_move _ _ rfl rfl) ?_
          simp only [Act.put, List.setIfInBounds_toArray, List.set_cons_zero, List.set_cons_succ]
          refine listRS (by rfl) ?_
          simp only [Act.put, List.setIfInBounds_toArray, List.set_cons_zero, List.set_cons_succ]
          refine listRS (by rfl) ?_
          simp only [Act.put, List.setIfInBounds_toArray, List.set_cons_zero, List.set_cons_succ]
          refine listRS (by rfl) ?_
          simp only [Act.put, List.setIfInBounds_toArray, List.set_cons_zero, List.set_cons_succ]
          refine listRV 62 (.bool false) (by rfl) rfl rfl (exec_pick _ _ _ false _ rfl rfl rfl) ?_
          simp only [Act.put, List.setIfInBounds_toArray, List.set_cons_zero, List.set_cons_succ]
          refine listRV 55 (.bool false) (by rfl) rfl rfl (exec_assign _ _ rfl rfl) ?_
          simp only [Act.put, List.setIfInBounds_toArray, List.set_cons_zero, List.set_cons_succ]
          gi_wp2
          first | exact F.out | exact ⟨F.out.1, _, rfl, F.out.2⟩
      · have s4 : ((z : Int) == 2) = false := by simp; omega
        have e1 := ONN.out (fun e => by have := e.1; omega) (fun e => hz4 e.2.1) (fun e => by have := e.1; omega)
        have F : Hid (KeepsFrom w1.heap.size W2 W2 ∧ RoI w1 sb h (.slice da dn dc) bs r0 (k + z, decide (z = 0)) W2) := by
          obtain ⟨f1, s', rfl, f2⟩ := ON2.out r W2 e1 (KM.out _ (Below.refl _ _)).1 (KM.out _ (Below.refl _ _)).2
          exact ⟨f1, f2⟩
        clear e1 ON2
        clear hx hz4
        gi_upto_region 8 with fail
        refine wpIn_region_lit ?_
        refine listRV 20 (.int .u8 x) (by rfl) rfl rfl (exec_move _ _ rfl rfl) ?_
        simp only [Act.put, List.setIfInBounds_toArray, List.set_cons_zero, List.set_cons_succ]
        refine listRV 21 (.bool false) (by rfl) rfl rfl (exec_eqlU _ _ _ _ _ _ rfl rfl rfl q2) ?_
        simp only [Act.put, List.setIfInBounds_toArray, List.set_cons_zero, List.set_cons_succ]
        refine listRV 22 (.bool false) (by rfl) rfl rfl (exec_move _ _ rfl rfl) ?_
        simp only [Act.put, List.setIfInBounds_toArray, List.set_cons_zero, List.set_cons_succ]
        refine listRS (by rfl) ?_
        simp only [Act.put, List.setIfInBounds_toArray, List.set_cons_zero, List.set_cons_succ]
        refine listRS (by rfl) ?_
        simp only [Act.put, List.setIfInBounds_toArray, List.set_cons_zero, List.set_cons_succ]
        refine listRS (by rfl) ?_
        simp only [Act.put, List.setIfInBounds_toArray, List.set_cons_zero, List.set_cons_succ]
        refine listRV 26 (.bool false) (by rfl) rfl rfl (exec_pick _ _ _ false _ rfl rfl rfl) ?_
        simp only [Act.put, List.setIfInBounds_toArray, List.set_cons_zero, List.set_cons_succ]
        refine listRV 27 (.bool false) (by rfl) rfl rfl (exec_move _ _ rfl rfl) ?_
        simp only [Act.put, List.setIfInBounds_toArray, List.set_cons_zero, List.set_cons_succ]
        refine listRS (by rfl) ?_
        simp only [Act.put, List.setIfInBounds_toArray, List.set_cons_zero, List.set_cons_succ]
        refine listRS (by rfl) ?_
        simp only [Act.put, List.setIfInBounds_toArray, List.set_cons_zero, List.set_cons_succ]
        refine listRS (by rfl) ?_
        simp only [Act.put, List.setIfInBounds_toArray, List.set_cons_zero, List.set_cons_succ]
        refine listRS (by rfl) ?_
        simp only [Act.put, List.setIfInBounds_toArray, List.set_cons_zero, List.set_cons_succ]
        refine listRV 32 (.bool false) (by rfl) rfl rfl (exec_pick _ _ _ false _ rfl rfl rfl) ?_
        simp only [Act.put, List.setIfInBounds_toArray, List.set_cons_zero, List.set_cons_succ]
        refine listRV 19 (.bool false) (by rfl) rfl rfl (exec_assign _ _ rfl rfl) ?_
        simp only [Act.put, List.setIfInBounds_toArray, List.set_cons_zero, List.set_cons_succ]
        gi_upto_region 10 with fail
        refine wpIn_region_lit ?_
        refine listRV 39 (.int .u8 x) (by rfl) rfl rfl (exec_move _ _ rfl rfl) ?_
        simp only [Act.put, List.setIfInBounds_toArray, List.set_cons_zero, List.set_cons_succ]
        refine listRV 40 (.bool true) (by rfl) rfl rfl (exec_eqlU _ _ _ _ _ _ rfl rfl rfl q4) ?_
        simp only [Act.put, List.setIfInBounds_toArray, List.set_cons_zero, List.set_cons_succ]
        refine listRV 41 (.bool true) (by rfl) rfl rfl (exec_move _ _ rfl rfl) ?_
        simp only [Act.put, List.setIfInBounds_toArray, List.set_cons_zero, List.set_cons_succ]
        refine listRV 42 (.slice (some ⟨g, off + k, none⟩) z c) (by rfl) rfl rfl (exec_move _ _ rfl rfl) ?_
        simp only [Act.put, List.setIfInBounds_toArray, List.set_cons_zero, List.set_cons_succ]
        refine listRV 43 (.int .i64 (z : Int)) (by rfl) rfl rfl (exec_len _ _ _ _ _ rfl rfl rfl) ?_
        simp only [Act.put, List.setIfInBounds_toArray, List.set_cons_zero, List.set_cons_succ]
        refine listRV 44 (.bool false) (by rfl) rfl rfl (exec_eqi _ _ _ _ _ _ rfl rfl rfl s4) ?_
        simp only [Act.put, List.setIfInBounds_toArray, List.set_cons_zero, List.set_cons_succ]
        refine listRV 45 (.bool false) (by rfl) rfl rfl (exec_pick _ _ _ true _ rfl rfl rfl) ?_
        simp only [Act.put, List.setIfInBounds_toArray, List.set_cons_zero, List.set_cons_succ]
        refine listRV 46 (.bool false) (by rfl) rfl rfl (exec_move _ _ rfl rfl) ?_
        simp only [Act.put, List.setIfInBounds_toArray, List.set_cons_zero, List.set_cons_succ]
        refine listRS (by rfl) ?_
        simp only [Act.put, List.setIfInBounds_toArray, List.set_cons_zero, List.set_cons_succ]
        refine listRS (by rfl) ?_
        simp only [Act.put, List.setIfInBounds_toArray, List.set_cons_zero, List.set_cons_succ]
        refine listRS (by rfl) ?_
        simp only [Act.put, List.setIfInBounds_toArray, List.set_cons_zero, List.set_cons_succ]
        refine listRS (by rfl) ?_
        simp only [Act.put, List.setIfInBounds_toArray, List.set_cons_zero, List.set_cons_succ]
        refine listRV 51 (.bool false) (by rfl) rfl rfl (exec_pick _ _ _ false _ rfl rfl rfl) ?_
        simp only [Act.put, List.setIfInBounds_toArray, List.set_cons_zero, List.set_cons_succ]
        refine listRV 38 (.bool false) (by rfl) rfl rfl (exec_assign _ _ rfl rfl) ?_
        simp only [Act.put, List.setIfInBounds_toArray, List.set_cons_zero, List.set_cons_succ]
        gi_upto_region 12 with fail
        refine wpIn_region_lit ?_
        refine listRV 56 (.int .u8 x) (by rfl) rfl rfl (exec_move _ _ rfl rfl) ?_
        simp only [Act.put, List.setIfInBounds_toArray, List.set_cons_zero, List.set_cons_succ]
        refine listRV 57 (.bool false) (by rfl) rfl rfl (exec_eqlU _ _ _ _ _ _ rfl rfl rfl q5) ?_
        simp only [Act.put, List.setIfInBounds_toArray, List.set_cons_zero, List.set_cons_succ]
        refine listRV 58 (.bool false) (by rfl) rfl rfl (exec_move _ _ rfl rfl) ?_
        simp only [Act.put, List.setIfInBounds_toArray, List.set_cons_zero, List.set_cons_succ]
        refine listRS (by rfl) ?_
        simp only [Act.put, List.setIfInBounds_toArray, List.set_cons_zero, List.set_cons_succ]
        refine listRS (by rfl) ?_
        simp only [Act.put, List.setIfInBounds_toArray, List.set_cons_zero, List.set_cons_succ]
        refine listRS (by rfl) ?_
        simp only [Act.put, List.setIfInBounds_toArray, List.set_cons_zero, List.set_cons_succ]
        refine listRV 62 (.bool false) (by rfl) rfl rfl (exec_pick _ _ _ false _ rfl rfl rfl) ?_
        simp only [Act.put, List.setIfInBounds_toArray, List.set_cons_zero, List.set_cons_succ]
        refine listRV 55 (.bool false) (by rfl) rfl rfl (exec_assign _ _ rfl rfl) ?_
        simp only [Act.put, List.setIfInBounds_toArray, List.set_cons_zero, List.set_cons_succ]
        gi_wp2
        first | exact F.out | exact ⟨F.out.1, _, rfl, F.out.2⟩
    by_cases hx5 : x = 5
    · clear hx hx4
      have hx := hx5
      have q2 : (x == 2) = false := by rw [hx]; rfl
      have q4 : (x == 4) = false := by rw [hx]; rfl
      have q5 : (x == 5) = true := by rw [hx]; rfl
      clear hx5
      have HX2 := hide hx
      clear hx
      have AR := hide (areSpans_any z W2)
      obtain ⟨ar, har⟩ : ∃ ar, ar = areS z := ⟨_, rfl⟩
      rw [← har] at AR
      have HAR := hide har
      clear har
      gi_upto_region 8 with fail
      refine wpIn_region_lit ?_
      refine listRV 20 (.int .u8 x) (by rfl) rfl rfl (exec_move _ _ rfl rfl) ?_
      simp only [Act.put, List.setIfInBounds_toArray, List.set_cons_zero, List.set_cons_succ]
      refine listRV 21 (.bool false) (by rfl) rfl rfl (exec_eqlU _ _ _ _ _ _ rfl rfl rfl q2) ?_
      simp only [Act.put, List.setIfInBounds_toArray, List.set_cons_zero, List.set_cons_succ]
      refine listRV 22 (.bool false) (by rfl) rfl rfl (exec_move _ _ rfl rfl) ?_
      simp only [Act.put, List.setIfInBounds_toArray, List.set_cons_zero, List.set_cons_succ]
      refine listRS (by rfl) ?_
      simp only [Act.put, List.setIfInBounds_toArray, List.set_cons_zero, List.set_cons_succ]
      refine listRS (by rfl) ?_
      simp only [Act.put, List.setIfInBounds_toArray, List.set_cons_zero, List.set_cons_succ]
      refine listRS (by rfl) ?_
      simp only [Act.put, List.setIfInBounds_toArray, List.set_cons_zero, List.set_cons_succ]
      refine listRV 26 (.bool false) (by rfl) rfl rfl (exec_pick _ _ _ false _ rfl rfl rfl) ?_
      simp only [Act.put, List.setIfInBounds_toArray, List.set_cons_zero, List.set_cons_succ]
      refine listRV 27 (.bool false) (by rfl) rfl rfl (exec_move _ _ rfl rfl) ?_
      simp only [Act.put, List.setIfInBounds_toArray, List.set_cons_zero, List.set_cons_succ]
      refine listRS (by rfl) ?_
      simp only [Act.put, List.setIfInBounds_toArray, List.set_cons_zero, List.set_cons_succ]
      refine listRS (by rfl) ?_
      simp only [Act.put, List.setIfInBounds_toArray, List.set_cons_zero, List.set_cons_succ]
      refine listRS (by rfl) ?_
      simp only [Act.put, List.setIfInBounds_toArray, List.set_cons_zero, List.set_cons_succ]
      refine listRS (by rfl) ?_
      simp only [Act.put, List.setIfInBounds_toArray, List.set_cons_zero, List.set_cons_succ]
      refine listRV 32 (.bool false) (by rfl) rfl rfl (exec_pick _ _ _ false _ rfl rfl rfl) ?_
      simp only [Act.put, List.setIfInBounds_toArray, List.set_cons_zero, List.set_cons_succ]
      refine listRV 19 (.bool false) (by rfl) rfl rfl (exec_assign _ _ rfl rfl) ?_
      simp only [Act.put, List.setIfInBounds_toArray, List.set_cons_zero, List.set_cons_succ]
      gi_upto_region 10 with fail
      refine wpIn_region_lit ?_
      refine listRV 39 (.int .u8 x) (by rfl) rfl rfl (exec_move _ _ rfl rfl) ?_
      simp only [Act.put, List.setIfInBounds_toArray, List.set_cons_zero, List.set_cons_succ]
      refine listRV 40 (.bool false) (by rfl) rfl rfl (exec_eqlU _ _ _ _ _ _ rfl rfl rfl q4) ?_
      simp only [Act.put, List.setIfInBounds_toArray, List.set_cons_zero, List.set_cons_succ]
      refine listRV 41 (.bool false) (by rfl) rfl rfl (exec_move _ _ rfl rfl) ?_
      simp only [Act.put, List.setIfInBounds_toArray, List.set_cons_zero, List.set_cons_succ]
      refine listRS (by rfl) ?_
      simp only [Act.put, List.setIfInBounds_toArray, List.set_cons_zero, List.set_cons_succ]
      refine listRS (by rfl) ?_
      simp only [Act.put, List.setIfInBounds_toArray, List.set_cons_zero, List.set_cons_succ]
      refine listRS (by rfl) ?_
      simp only [Act.put, List.setIfInBounds_toArray, List.set_cons_zero, List.set_cons_succ]
      refine listRV 45 (.bool false) (by rfl) rfl rfl (exec_pick _ _ _ false _ rfl rfl rfl) ?_
      simp only [Act.put, List.setIfInBounds_toArray, List.set_cons_zero, List.set_cons_succ]
      refine listRV 46 (.bool false) (by rfl) rfl rfl (exec_move _ _ rfl rfl) ?_
      simp only [Act.put, List.setIfInBounds_toArray, List.set_cons_zero, List.set_cons_succ]
      refine listRS (by rfl) ?_
      simp only [Act.put, List.setIfInBounds_toArray, List.set_cons_zero, List.set_cons_succ]
      refine listRS (by rfl) ?_
      simp only [Act.put, List.setIfInBounds_toArray, List.set_cons_zero, List.set_cons_succ]
      refine listRS (by rfl) ?_
      simp only [Act.put, List.setIfInBounds_toArray, List.set_cons_zero, List.set_cons_succ]
      refine listRS (by rfl) ?_
      simp only [Act.put, List.setIfInBounds_toArray, List.set_cons_zero, List.set_cons_succ]
      refine listRV 51 (.bool false) (by rfl) rfl rfl (exec_pick _ _ _ false _ rfl rfl rfl) ?_
      simp only [Act.put, List.setIfInBounds_toArray, List.set_cons_zero, List.set_cons_succ]
      refine listRV 38 (.bool false) (by rfl) rfl rfl (exec_assign _ _ rfl rfl) ?_
      simp only [Act.put, List.setIfInBounds_toArray, List.set_cons_zero, List.set_cons_succ]
      gi_wp2_with fail
      refine ⟨trivial, fun h => by simp [Fence.wide] at h, ?_⟩
      refine (callsIn_round AR.out).mono ?_
      rintro _ w3 ⟨rfl, e3⟩
      rw [e3]
      clear e3 AR
      cases ar with
      | true =>
        have hzq : z = 2 + 8 * ((z - 2) / 8) ∧ (z - 2) / 8 ≤ 3 ∧ 1 ≤ (z - 2) / 8 := by
          have h5 : areS z = true := HAR.out.symm
          unfold areS at h5
          rw [decide_eq_true_eq] at h5
          omega
        obtain ⟨q, hq⟩ : ∃ q, q = (z - 2) / 8 := ⟨_, rfl⟩
        rw [← hq] at hzq
        have HQ := hide hq
        have HZQ := hide hzq
        have IO2 : Hid (IsB W2.drew.heap.size W2.drew (.slice (some ⟨g, off + k + 2, none⟩) (z - 2) (c - 2)) (op.drop 2)) := by
          have h1 := (IO.out W2.drew (later_drew _)).drop 2 (by rw [OL.out]; omega)
          rw [if_neg (by omega), Option.map_some, Addr.add_lit] at h1
          exact h1
        have SP := hide (spans_any q hzq.2.1 (by rw [List.length_drop, OL.out]; omega) IO2.out (BO.out.drop 2))
        obtain ⟨sgx, p3, sf3⟩ := SG.out W2 (Below.refl _ _)
        have z2c : 2 < z := by omega
        clear hq hzq
        gi_wp2_with fail
        refine regionJ_in (fun i => decide (i ≤ 5)) (fun W => W.cell? ⟨s, 0, none⟩ = some (.pointer (some ⟨sb, 0, none⟩))) (by kernel_rfl) (by kernel_rfl) ?_
        refine takeJ (i := 0) (v := .pointer (some ⟨sb, 0, none⟩)) 63 rfl rfl (by kernel_rfl) (by kernel_rfl) (by kernel_rfl) (by kernel_rfl) (fun _ _ _ h => h) (.inl ⟨by rfl, fun W hW => exec_load1 63 oneSgp _ rfl s 0 rfl (.pointer (some ⟨sb, 0, none⟩)) (hW)⟩) (p3) ?_
        try simp only [Act.put, List.setIfInBounds_toArray, List.set_cons_zero, List.set_cons_succ]
        refine takeJ (i := 1) (v := .slice (some ⟨g, off + k, none⟩) z c) 64 rfl rfl (by kernel_rfl) (by kernel_rfl) (by kernel_rfl) (by kernel_rfl) (fun _ _ _ h => h) (.inl ⟨by rfl, fun W hW => exec_move _ _ rfl rfl⟩) (p3) ?_
        try simp only [Act.put, List.setIfInBounds_toArray, List.set_cons_zero, List.set_cons_succ]
        refine takeJ (i := 2) (v := .slice (some ⟨g, off + k + 2, none⟩) (z - 2) (c - 2)) 65 rfl rfl (by kernel_rfl) (by kernel_rfl) (by kernel_rfl) (by kernel_rfl) (fun _ _ _ h => h) (.inl ⟨by rfl, fun W hW => exec_slB _ _ g (off + k) z c 2 rfl rfl rfl z2c hzc⟩) (p3) ?_
        try simp only [Act.put, List.setIfInBounds_toArray, List.set_cons_zero, List.set_cons_succ]
        refine callJ 3 66 (by kernel_rfl) rfl rfl (by rfl) 61 #[.slice (some ⟨g, off + k + 2, none⟩) (z - 2) (c - 2)] (exec_callF _ _ _ _ rfl (map1 rfl) (enters_of Try.func61 (by kernel_rfl) rfl)) (fun v w9 => GG (fun q => W2.heap.size ≤ q) w9 v (spL (op.drop 2) q) ∧ Below W2.heap.size W2 w9) (SP.out.mono (fun e w' h => by obtain ⟨u, rfl, h1, h2⟩ := h; exact ⟨u, rfl, h1, later (later_drew W2) h2⟩)) ?_
        rintro v w4 ⟨g4, b4⟩
        obtain ⟨va, vc, rfl⟩ := RowF.shape g4
        have B4 := hide b4
        have GG4 := hide g4
        obtain ⟨sg4, p4, sf4⟩ := SG.out w4 b4
        refine ⟨p4, ?_⟩
        simp only [Act.put, List.setIfInBounds_toArray, List.set_cons_zero, List.set_cons_succ]
        refine nextJ (w' := w4) 4 67 (.pointer (some ⟨sb, 0, none⟩)) (by kernel_rfl) rfl rfl (by rfl) (exec_nilS _ sb rfl rfl) (p4) ?_
        try simp only [Act.put, List.setIfInBounds_toArray, List.set_cons_zero, List.set_cons_succ]
        refine nextJ (w' := w4) 5 68 (.pointer (some ⟨sb, 8, none⟩)) (by kernel_rfl) rfl rfl (by rfl) (exec_fieldO 26 _ 8 sb 0 8 rfl rfl (fun w => by kernel_rfl)) (p4) ?_
        try simp only [Act.put, List.setIfInBounds_toArray, List.set_cons_zero, List.set_cons_succ]
        obtain ⟨vs, hvs⟩ : ∃ vs, vs = Value.slice va (spL (op.drop 2) q).length vc := ⟨_, rfl⟩
        rw [← hvs] at GG4 ⊢
        have v1 : vs.oneCell' = true := by rw [hvs]; rfl
        obtain ⟨wG, hwG⟩ : ∃ wG, wG = w4.setCell ⟨sb, 8, none⟩ vs := ⟨_, rfl⟩
        refine storeJ (w' := wG) 6 (by kernel_rfl) rfl rfl (by rfl) (by rw [hwG]; exact exec_store1 23 s1Sps _ _ rfl sb 8 rfl _ _ rfl (sg4 8 _ rfl) (sf4 8) v1) (by simp) ?_
        refine doneJW (by kernel_rfl) _ ?_
        have nG : But (Only sb) w4 wG := by rw [hwG]; exact (But.refl (Only sb) w4).setCell (p := ⟨sb, 8, none⟩) (.inr rfl) _
        have RMG : RoM w1 sb h (.slice da dn dc) ({ r with got := spL (op.drop 2) q }) wG := by
          obtain ⟨sg, _, sf⟩ := SG.out _ B4.out
          refine ⟨fun y => by rw [hwG, World.frozen?_setCell]; exact sf y, vs, by rw [hwG]; exact sg.set 8 _, ?_⟩
          have n8 : ∀ q, W2.heap.size ≤ q → ¬ Only sb q := fun q hq e => by have e : q = sb := e; have := sl.out; omega
          have r1 := RowF.but GG4.out nG (fun q e => n8 q e)
          have r2 := RowF.cel r1 (by rw [spL_len]; have := HZQ.out.2.2; omega) (by decide)
          exact (GG.cg r2).own (fun q _ e => ⟨Nat.le_trans zW e.1, e.2⟩)
        have F : Hid (KeepsFrom w1.heap.size W2 wG ∧ RoI w1 sb h (.slice da dn dc) bs r0 (k + z, decide (z = 0)) wG) := by
          obtain ⟨f1, s', rfl, f2⟩ := ON2.out _ wG (by rw [ONG.out HX2.out HAR.out.symm, HQ.out]) RMG ((KM.out _ B4.out).2.trans nG)
          exact ⟨f1, f2⟩
        clear sg4 p4 sf4 hwG nG RMG
        gi_wp2
        first | exact F.out | exact ⟨F.out.1, _, rfl, F.out.2⟩
      | false =>
        have e1 := ONN.out (fun e => by have := e.1; have := HX2.out; omega) (fun e => by have := e.1; have := HX2.out; omega) (fun e => by rw [← HAR.out] at e; cases e.2)
        have F : Hid (KeepsFrom w1.heap.size W2 W2 ∧ RoI w1 sb h (.slice da dn dc) bs r0 (k + z, decide (z = 0)) W2) := by
          obtain ⟨f1, s', rfl, f2⟩ := ON2.out r W2 e1 (KM.out _ (Below.refl _ _)).1 (KM.out _ (Below.refl _ _)).2
          exact ⟨f1, f2⟩
        clear e1 ON2
        gi_wp2
        first | exact F.out | exact ⟨F.out.1, _, rfl, F.out.2⟩
    have q2 : (x == 2) = false := by simpa using hx
    have q4 : (x == 4) = false := by simpa using hx4
    have q5 : (x == 5) = false := by simpa using hx5
    have e1 := ONN.out (fun e => hx e.1) (fun e => hx4 e.1) (fun e => hx5 e.1)
    have F : Hid (KeepsFrom w1.heap.size W2 W2 ∧ RoI w1 sb h (.slice da dn dc) bs r0 (k + z, decide (z = 0)) W2) := by
      obtain ⟨f1, s', rfl, f2⟩ := ON2.out r W2 e1 (KM.out _ (Below.refl _ _)).1 (KM.out _ (Below.refl _ _)).2
      exact ⟨f1, f2⟩
    clear e1 ON2
    clear hx hx4 hx5
    gi_upto_region 8 with fail
    refine wpIn_region_lit ?_
    refine listRV 20 (.int .u8 x) (by rfl) rfl rfl (exec_move _ _ rfl rfl) ?_
    simp only [Act.put, List.setIfInBounds_toArray, List.set_cons_zero, List.set_cons_succ]
    refine listRV 21 (.bool false) (by rfl) rfl rfl (exec_eqlU _ _ _ _ _ _ rfl rfl rfl q2) ?_
    simp only [Act.put, List.setIfInBounds_toArray, List.set_cons_zero, List.set_cons_succ]
    refine listRV 22 (.bool false) (by rfl) rfl rfl (exec_move _ _ rfl rfl) ?_
    simp only [Act.put, List.setIfInBounds_toArray, List.set_cons_zero, List.set_cons_succ]
    refine listRS (by rfl) ?_
    simp only [Act.put, List.setIfInBounds_toArray, List.set_cons_zero, List.set_cons_succ]
    refine listRS (by rfl) ?_
    simp only [Act.put, List.setIfInBounds_toArray, List.set_cons_zero, List.set_cons_succ]
    refine listRS (by rfl) ?_
    simp only [Act.put, List.setIfInBounds_toArray, List.set_cons_zero, List.set_cons_succ]
    refine listRV 26 (.bool false) (by rfl) rfl rfl (exec_pick _ _ _ false _ rfl rfl rfl) ?_
    simp only [Act.put, List.setIfInBounds_toArray, List.set_cons_zero, List.set_cons_succ]
    refine listRV 27 (.bool false) (by rfl) rfl rfl (exec_move _ _ rfl rfl) ?_
    simp only [Act.put, List.setIfInBounds_toArray, List.set_cons_zero, List.set_cons_succ]
    refine listRS (by rfl) ?_
    simp only [Act.put, List.setIfInBounds_toArray, List.set_cons_zero, List.set_cons_succ]
    refine listRS (by rfl) ?_
    simp only [Act.put, List.setIfInBounds_toArray, List.set_cons_zero, List.set_cons_succ]
    refine listRS (by rfl) ?_
    simp only [Act.put, List.setIfInBounds_toArray, List.set_cons_zero, List.set_cons_succ]
    refine listRS (by rfl) ?_
    simp only [Act.put, List.setIfInBounds_toArray, List.set_cons_zero, List.set_cons_succ]
    refine listRV 32 (.bool false) (by rfl) rfl rfl (exec_pick _ _ _ false _ rfl rfl rfl) ?_
    simp only [Act.put, List.setIfInBounds_toArray, List.set_cons_zero, List.set_cons_succ]
    refine listRV 19 (.bool false) (by rfl) rfl rfl (exec_assign _ _ rfl rfl) ?_
    simp only [Act.put, List.setIfInBounds_toArray, List.set_cons_zero, List.set_cons_succ]
    gi_upto_region 10 with fail
    refine wpIn_region_lit ?_
    refine listRV 39 (.int .u8 x) (by rfl) rfl rfl (exec_move _ _ rfl rfl) ?_
    simp only [Act.put, List.setIfInBounds_toArray, List.set_cons_zero, List.set_cons_succ]
    refine listRV 40 (.bool false) (by rfl) rfl rfl (exec_eqlU _ _ _ _ _ _ rfl rfl rfl q4) ?_
    simp only [Act.put, List.setIfInBounds_toArray, List.set_cons_zero, List.set_cons_succ]
    refine listRV 41 (.bool false) (by rfl) rfl rfl (exec_move _ _ rfl rfl) ?_
    simp only [Act.put, List.setIfInBounds_toArray, List.set_cons_zero, List.set_cons_succ]
    refine listRS (by rfl) ?_
    simp only [Act.put, List.setIfInBounds_toArray, List.set_cons_zero, List.set_cons_succ]
    refine listRS (by rfl) ?_
    simp only [Act.put, List.setIfInBounds_toArray, List.set_cons_zero, List.set_cons_succ]
    refine listRS (by rfl) ?_
    simp only [Act.put, List.setIfInBounds_toArray, List.set_cons_zero, List.set_cons_succ]
    refine listRV 45 (.bool false) (by rfl) rfl rfl (exec_pick _ _ _ false _ rfl rfl rfl) ?_
    simp only [Act.put, List.setIfInBounds_toArray, List.set_cons_zero, List.set_cons_succ]
    refine listRV 46 (.bool false) (by rfl) rfl rfl (exec_move _ _ rfl rfl) ?_
    simp only [Act.put, List.setIfInBounds_toArray, List.set_cons_zero, List.set_cons_succ]
    refine listRS (by rfl) ?_
    simp only [Act.put, List.setIfInBounds_toArray, List.set_cons_zero, List.set_cons_succ]
    refine listRS (by rfl) ?_
    simp only [Act.put, List.setIfInBounds_toArray, List.set_cons_zero, List.set_cons_succ]
    refine listRS (by rfl) ?_
    simp only [Act.put, List.setIfInBounds_toArray, List.set_cons_zero, List.set_cons_succ]
    refine listRS (by rfl) ?_
    simp only [Act.put, List.setIfInBounds_toArray, List.set_cons_zero, List.set_cons_succ]
    refine listRV 51 (.bool false) (by rfl) rfl rfl (exec_pick _ _ _ false _ rfl rfl rfl) ?_
    simp only [Act.put, List.setIfInBounds_toArray, List.set_cons_zero, List.set_cons_succ]
    refine listRV 38 (.bool false) (by rfl) rfl rfl (exec_assign _ _ rfl rfl) ?_
    simp only [Act.put, List.setIfInBounds_toArray, List.set_cons_zero, List.set_cons_succ]
    gi_upto_region 12 with fail
    refine wpIn_region_lit ?_
    refine listRV 56 (.int .u8 x) (by rfl) rfl rfl (exec_move _ _ rfl rfl) ?_
    simp only [Act.put, List.setIfInBounds_toArray, List.set_cons_zero, List.set_cons_succ]
    refine listRV 57 (.bool false) (by rfl) rfl rfl (exec_eqlU _ _ _ _ _ _ rfl rfl rfl q5) ?_
    simp only [Act.put, List.setIfInBounds_toArray, List.set_cons_zero, List.set_cons_succ]
    refine listRV 58 (.bool false) (by rfl) rfl rfl (exec_move _ _ rfl rfl) ?_
    simp only [Act.put, List.setIfInBounds_toArray, List.set_cons_zero, List.set_cons_succ]
    refine listRS (by rfl) ?_
    simp only [Act.put, List.setIfInBounds_toArray, List.set_cons_zero, List.set_cons_succ]
    refine listRS (by rfl) ?_
    simp only [Act.put, List.setIfInBounds_toArray, List.set_cons_zero, List.set_cons_succ]
    refine listRS (by rfl) ?_
    simp only [Act.put, List.setIfInBounds_toArray, List.set_cons_zero, List.set_cons_succ]
    refine listRV 62 (.bool false) (by rfl) rfl rfl (exec_pick _ _ _ false _ rfl rfl rfl) ?_
    simp only [Act.put, List.setIfInBounds_toArray, List.set_cons_zero, List.set_cons_succ]
    refine listRV 55 (.bool false) (by rfl) rfl rfl (exec_assign _ _ rfl rfl) ?_
    simp only [Act.put, List.setIfInBounds_toArray, List.set_cons_zero, List.set_cons_succ]
    gi_wp2
    first | exact F.out | exact ⟨F.out.1, _, rfl, F.out.2⟩
theorem readOptions_any {w : World} (sb : Nat) (h : Sg) (dv : Value) (hM : CellsAt w sb 0 ((h.ro ⟨0, false, []⟩).cells (.slice none 0 0) dv) ∧ ∀ y, w.frozen? ⟨sb, y, none⟩ = false) (hsb : sb < w.heap.size) (hda : ∃ a n c, dv = .slice a n c) (v : Value) (bs : List Int) (hb : IsB w.heap.size w v bs) (hgs : ∀ g off n c, v = .slice (some ⟨g, off, none⟩) n c → g ≠ sb) (hB : Bytes bs) (hlb : bs.length ≤ 1000) :
    Calls Try.prog 39 #[.pointer (some ⟨sb, 0, none⟩), v] w fun e w' => e = .returned (.bool (rdO (hasB h.flg 2) bs ⟨0, false, []⟩).1) ∧ RoM w sb h dv (rdO (hasB h.flg 2) bs ⟨0, false, []⟩).2 w' ∧ But (Only sb) w w' := by
  obtain ⟨a, c, rfl, r⟩ := hb
  exact callsIn_wide.1 (readOptions_in 3 (Nat.le_refl _) sb h dv _ rfl hM hsb hda a c bs ⟨a, c, rfl, r⟩ (fun g off e => hgs g off _ _ (by rw [e])) hB hlb)
end Go.Proofs.Ytggadchhkenipaa
