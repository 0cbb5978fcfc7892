
/-
  Package arp: makeRoom looks for the one that may go.
-/
import Derived.Test.YtdcpnjlldocdcaaA18
namespace Go.Proofs.Ytdcpnjlldocdcaa
open Go.RowKit Go.Shelf
attribute [local go_sem] Oper.semAt_some

/-- a labelled body -/
theorem wpIn_scope_straight {F : Fence} {n : Nat} {P : Program} {Q : Exit → Act → World → Prop} {a : Act} {w : World} {c : Code} (h : c.wpIn F n P (Exit.noGoto Q) a w) : (Code.scope c).wpIn F n P Q a w := by
  intro b k cs hro hb hr
  have h0 : (lone (b.atR a (.code (.scope c) :: k)) cs w).fenced P F := fenced_calm hb hr rfl
  have s0 : step P (lone (b.atR a (.code (.scope c) :: k)) cs w) = .next (lone (b.atR a (.code c :: .inScope c :: k)) cs w) := step_lone_go (by simp [stepG, stepG.exec, Frame.atR])
  obtain ⟨e, a₁, w₁, hq, harr⟩ := h b (.inScope c :: k) cs hro hb hr
  have s1 : step P (lone (b.atR a₁ (.inScope c :: k)) cs w₁) = .next (lone (b.atR a₁ k) cs w₁) := step_lone_go (by simp [stepG, stepG.exec, Frame.atR])
  cases e with
  | normal => exact ⟨.normal, a₁, w₁, hq, .head h0 s0 (StepsIn.trans harr (.one (fenced_calm hb hr rfl) s1))⟩
  | exit id =>
    have hx : exitTo id (.inScope c :: k) = exitTo id k := by simp [exitTo]
    exact ⟨.exit id, a₁, w₁, hq, fun k' hk => .head h0 s0 (harr.1 k' (by rw [hx]; exact hk)),
      fun hr' hk => let ⟨k₁, h1, h2⟩ := harr.2 hr' (by rw [hx]; exact hk); ⟨k₁, h1, .head h0 s0 h2⟩⟩
  | goto l => exact hq.elim
  | ret => exact ⟨_, a₁, w₁, hq, .of_steps (.one h0 s0) harr⟩
  | panic ch => exact ⟨_, a₁, w₁, hq, .of_steps (.one h0 s0) harr⟩
  | outgrown => exact ⟨_, a₁, w₁, hq, .of_steps (.one h0 s0) harr⟩

theorem region_in {l n id : Nat} {ops : Array Oper} {Q : Exit → Act → World → Prop} {a : Act} {w : World} (S : World → Prop) (hm : Try.prog.follows .mixedOrders = true) (hnd : ops.all noDefer = true)
    (h : wpAnyH Try.prog .any ops (Well fun a' w' => Q .normal a' w') S ops.size (Array.replicate ops.size false) a w.drew) : (Code.region id ops true).wpIn (Fence.wide.inRound l) n Try.prog Q a w :=
  region_round S _ hm hnd h (fun _ _ h => h)
theorem doneR {ops : Array Oper} {Q' : Act → World → Prop} {md : Region.Mode} {S : World → Prop} {listed : Array Bool} {a : Act} {w : World} (hr : Region.ready md ops listed = []) (fuel : Nat) (h : Q' a w) : wpAnyH Try.prog md ops (Well Q') S fuel listed a w := wpAnyH_done hr h fuel
section
variable {o : Oper} {w : World} {ev : Operand → Value}
theorem exec_eqi (x y : Operand) (t : TypeId) (a b : Int) (r : Bool) (ho : o.op = .binOp .eql 3 x y t) (hx : ev x = .int .i64 a) (hy : ev y = .int .i64 b) (hr : (a == b) = r) : (execOp ev o).run Try.prog w = .ok (.value (.bool r)) w := by
  unfold execOp
  simp [ho, hx, hy, go_sem, hr]
theorem exec_nei (x y : Operand) (t : TypeId) (a b : Int) (r : Bool) (ho : o.op = .binOp .neq 3 x y t) (hx : ev x = .int .i64 a) (hy : ev y = .int .i64 b) (hr : (!(a == b)) = r) : (execOp ev o).run Try.prog w = .ok (.value (.bool r)) w := by
  subst hr
  unfold execOp
  simp [ho, hx, hy, go_sem]
  rfl
theorem exec_lei (x y : Operand) (t : TypeId) (a b : Int) (r : Bool) (ho : o.op = .binOp .leq 3 x y t) (hx : ev x = .int .i64 a) (hy : ev y = .int .i64 b) (hr : decide (a ≤ b) = r) : (execOp ev o).run Try.prog w = .ok (.value (.bool r)) w := by
  subst hr
  unfold execOp
  simp [ho, hx, hy, go_sem]
theorem exec_lti (x y : Operand) (t : TypeId) (a b : Int) (r : Bool) (ho : o.op = .binOp .lss 3 x y t) (hx : ev x = .int .i64 a) (hy : ev y = .int .i64 b) (hr : decide (a < b) = r) : (execOp ev o).run Try.prog w = .ok (.value (.bool r)) w := by
  subst hr
  unfold execOp
  simp [ho, hx, hy, go_sem]
theorem exec_nep (x y : Operand) (t : TypeId) (p : Option Addr) (ho : o.op = .binOp .neq 82 x y t) (hx : ev x = .pointer p) (hy : ev y = .pointer none) : (execOp ev o).run Try.prog w = .ok (.value (.bool p.isSome)) w := by
  unfold execOp
  cases p <;> simp [ho, hx, hy, go_sem]
end
theorem oneP (w : World) : (isAgg 82).run Try.prog w = .ok false w := by kernel_rfl

/-- where the one that may go stands -/
def oldP (g : Nat) (L : List Nb) (k : Nat) : Value := .pointer ((old L k).map fun j => ⟨g, j * 15, none⟩)
/-- between two rounds -/
def RmI (w1 : World) (r g : Nat) (L : List Nb) (k : Nat) (W : World) : Prop := But (Only r) w1 W ∧ W.cell? ⟨r, 0, none⟩ = some (oldP g L k) ∧ W.frozen? ⟨r, 0, none⟩ = false
theorem RmI.keep {w1 : World} {r g : Nat} {L : List Nb} {k : Nat} {W W' : World} {K : Nat → Prop} (h : RmI w1 r g L k W) (hr : r < w1.heap.size) (hb : But K W W') (hk : ∀ g, K g → w1.heap.size ≤ g) : RmI w1 r g L k W' := by
  obtain ⟨h1, h2, h3⟩ := h
  have nr : ¬ K r := fun e => by have := hk _ e; omega
  have hl := Nat.lt_of_lt_of_le hr h1.size
  exact ⟨h1.trans' hb (fun q hq e => by have := hk q e; omega), (hb.cell (p := ⟨r, 0, none⟩) hl nr).trans h2, (hb.frozen (p := ⟨r, 0, none⟩) hl nr).trans h3⟩

set_option maxRecDepth 100000 in
set_option maxHeartbeats 4000000 in
theorem room_in (n : Nat) (hn : 3 ≤ n) {w : World} (b g c : Nat) (L : List Nb) (V : Nat → Value) (cL : w.cell? ⟨b, 10, none⟩ = some (.slice (some ⟨g, 0, none⟩) L.length c)) (fL : w.frozen? ⟨b, 10, none⟩ = false) (hbg : b ≠ g) (hR : RowF 15 (Only g) w (.slice (some ⟨g, 0, none⟩) L.length c) L.length (nbl L V)) (hV : ∀ q, (V q).oneCell' = true) (hl : L.length = 8) (hips : (L.map Nb.ip).Nodup) :
    CallsIn Fence.wide n Try.prog 37 #[.pointer (some ⟨b, 0, none⟩)] w fun e w' =>
      (old L 8 = none ∧ e = .returned (.bool false) ∧ Below w.heap.size w w') ∨ (∃ j wd, old L 8 = some j ∧ e = .returned (.bool true) ∧ Below w.heap.size (wd.setCell ⟨b, 10, none⟩ (.slice (some ⟨g, 0, none⟩) 7 c)) w' ∧ RowF 15 (Only g) wd (.slice (some ⟨g, 0, none⟩) 7 c) 7 (fun q => if q < j then nbl L V q else nbl L V (q + 1)) ∧ But (Only g) w wd) := by
  have h1 : 1 ≤ n := by omega
  have hblt : b < w.heap.size := World.block_lt_of_cell? w _ cL
  obtain ⟨g', e, hg, _, _, hcs⟩ := hR.at (by omega)
  cases e
  rw [hl] at cL
  have HR := hide hR
  have HIPS := hide hips
  have HL := hide hl
  have HV := hide hV
  refine callsIn_of_wp_marks Try.func37 rfl trivial ?_ rfl
  simp only [Try.ntmps37, List.size_toArray, List.length_cons, List.length_nil, Nat.reduceAdd, Nat.reduceSub, Array.replicate_succ, Array.replicate_zero, List.push_toArray, List.append_toArray, List.nil_append, List.cons_append]
  clear hR hips hl hV
  gi_wp2
  refine wpIn_scope_straight ?_
  gi_wp2
  refine wpIn_label ?_
  gi_wp2_with fail
  refine ⟨trivial, ?_⟩
  refine (neighbours_in (n - 1) b _).mono ?_
  rintro e w' ⟨rfl, rfl⟩
  obtain ⟨s, hs⟩ : ∃ s, s = w.heap.size := ⟨_, rfl⟩
  simp only [World.size_alloc]
  rw [← hs]
  obtain ⟨w1, hw1⟩ : ∃ w1, w1 = (w.alloc (.cells #[.pointer none] 82)).alloc (.cells #[.pointer (some ⟨b, 0, none⟩)] 37) := ⟨_, rfl⟩
  rw [← hw1]
  have hb0 : Below w.heap.size w w1 := by rw [hw1]; exact ((Below.refl _ w).alloc (Nat.le_refl _) _).alloc (by simp) _
  have hsz : w1.heap.size = s + 2 := by rw [hw1]; simp [hs]
  have bB := (Boxed.new w 82 (.pointer none)).alloc (.cells #[.pointer (some ⟨b, 0, none⟩)] 37)
  have bC := Boxed.new (w.alloc (.cells #[.pointer none] 82)) 37 (.pointer (some ⟨b, 0, none⟩))
  simp only [World.size_alloc] at bB bC
  rw [← hw1, ← hs] at bB bC
  have cB := bB.cell
  have fB := bB.frozen
  have cC : w1.cell? ⟨s + 1, 0, none⟩ = some (.pointer (some ⟨b, 0, none⟩)) := bC.cell
  have cL1 := (hb0.cell (p := ⟨b, 10, none⟩) hblt).trans cL
  have hR1 : ∀ k x, L[k]? = some x → CellsAt w1 g (k * 15) (x.cells (V k)) := fun k x hx => by
    have := hcs k (List.getElem?_eq_some_iff.1 hx).1
    rw [nbl_at hx] at this
    exact this.later hg hb0
  have HB0 := hide hb0
  have HS := hide hs
  have HBL := hide hblt
  have HGL := hide hg
  clear hs hw1 bB bC cL hcs hb0
  gi_wp2
  refine wpIn_range h1 (gf := 46) (lb := #[.pointer (some ⟨s + 1, 0, none⟩)]) rfl (enters_of Try.func46 (by kernel_rfl) rfl) (RmI w1 s g L) (fun _ _ => False) 0
    (neighbours_tells (n - 1) (by omega) (s + 1) b g 8 c (some ⟨g, 0, none⟩) (fun _ => rfl) (by omega) _ (fun k W h => ⟨(h.1.cell (p := ⟨s + 1, 0, none⟩) (by show s + 1 < _; omega) (fun e => by have e : s + 1 = s := e; omega)).trans cC, (h.1.cell (p := ⟨b, 10, none⟩) (by have := HS.out; have := HBL.out; show b < _; omega) (fun e => by have e : b = s := e; have := HS.out; have := HBL.out; omega)).trans cL1⟩))
    (fun k args ⟨_, e⟩ => by rw [e]; rfl) (fun k W o h => h.keep (by omega) ((But.refl (fun _ => False) W).alloc o) (fun _ e => e.elim)) (fun k W l o o' hl ho hc h => h.keep (by omega) (put_but W l o') (fun q e => by omega)) (fun c W o h => h.elim) (fun c W l o o' hl ho hc h => h.elim) (fun c W h => h.elim) ⟨But.refl _ _, cB, fB⟩ ?round ?done ?stop
  case stop => intro D c W _ h; exact h.elim
  case round =>
    rintro l k args W' hlS hI ⟨hk, rfl⟩
    obtain ⟨x, hx⟩ : ∃ x, L[k]? = some x := ⟨_, List.getElem?_eq_getElem (by have := HL.out; omega)⟩
    have cX := hR1 k x hx
    have HI := hide hI
    have HX := hide hx
    have HR1 := hide hR1
    clear hI hx hR1
    gi_wp2
    refine ⟨KeepsFrom.refl _ _, ?_⟩
    intro o o' hoo hc
    have hI2 : RmI w1 s g L k (W'.putObj l o') := HI.out.keep (by omega) (put_but W' l o') (fun q e => by omega)
    clear hoo hc HI
    generalize W'.putObj l o' = W2 at *
    obtain ⟨hb, cP, fP⟩ := hI2
    have hHS := HS.out
    have hHG := HGL.out
    have ngs : ¬ Only s g := fun e => by have e : g = s := e; omega
    have cX2 := cX.but (by omega) hb ngs
    have kp : ∀ W3 : World, But (fun _ => False) W2 W3 → KeepsFrom w1.heap.size W2 W3 := fun W3 hb3 => KeepsFrom.of_but hb3 (fun _ e => e.elim)
    have c4 : W2.drew.cell? ⟨g, k * 15 + 4, none⟩ = some (.int .i64 x.st) := cX2 4 _ rfl
    have c11 : W2.drew.cell? ⟨g, k * 15 + 11, none⟩ = some (.int .i64 x.since) := cX2 11 _ rfl
    have cP2 : W2.drew.cell? ⟨s, 0, none⟩ = some (oldP g L k) := cP
    have fP2 : W2.drew.frozen? ⟨s, 0, none⟩ = false := fP
    have hb2 : But (Only s) w1 W2.drew := hb.drew
    have SL : s < W2.drew.heap.size := World.block_lt_of_cell? _ _ cP2
    have EK : Hid (old L (k + 1) = if x.st = 1 then old L k else match old L k with
        | none => some k
        | some j => if (L[j]?.map Nb.since).getD 0 ≤ x.since then some j else some k) := by
      unfold Hid
      rw [show old L (k + 1) = match L[k]? with
        | none => old L k
        | some x => if x.st = 1 then old L k else match old L k with
          | none => some k
          | some j => if (L[j]?.map Nb.since).getD 0 ≤ x.since then some j else some k from rfl, HX.out]
    have KP0 : Hid (KeepsFrom w1.heap.size W2 W2.drew) := kp _ ((But.refl _ _).drew)
    have KP1 : Hid (∀ v, KeepsFrom w1.heap.size W2 (W2.drew.setCell ⟨s, 0, none⟩ v)) := fun v => KeepsFrom.of_but (K := Only s) (((But.refl (Only s) W2).drew).setCell (p := ⟨s, 0, none⟩) (.inr rfl) v) (fun q e => by have e : q = s := e; rw [e]; exact cells_of_cell cP)
    have FS : Hid (∀ k', old L (k + 1) = old L k' → k' = k → RmI w1 s g L (k + 1) W2.drew) := fun k' e1 e2 => ⟨hb2, by rw [cP2]; unfold oldP; rw [e1, e2], fP2⟩
    have FK : Hid (old L (k + 1) = some k → RmI w1 s g L (k + 1) (W2.drew.setCell ⟨s, 0, none⟩ (.pointer (some ⟨g, k * 15, none⟩)))) := fun e1 => ⟨hb2.setCell (p := ⟨s, 0, none⟩) (.inr rfl) _, by
      rw [World.cell?_setCell_same _ _ _ cP2]; unfold oldP; rw [e1]; rfl, by rw [setCell_one, World.frozen?_setCells]; exact fP2⟩
    have HB2 := hide hb2
    have HSZ := hide hsz
    clear hb hb2 cX cX2 cP fP kp hHS hHG hsz
    generalize hWd : W2.drew = Wd at *
    by_cases h1s : x.st = 1
    · have q1 : (x.st == 1) = true := by simp [h1s]
      have FIN := hide (FS.out k (by rw [EK.out, if_pos h1s]) rfl)
      gi_wp2
      refine region_in (fun W => W = Wd) (by kernel_rfl) (by kernel_rfl) ?_
      rw [hWd]
      refine takeD (i := 0) (v := .pointer (some ⟨g, k * 15, none⟩)) 15 rfl rfl (by kernel_rfl) (by kernel_rfl) (by kernel_rfl) (fun _ _ _ h => h) (.inl ⟨by rfl, fun W hW => exec_move _ _ rfl rfl⟩) (rfl) ?_
      try simp only [Act.put, List.setIfInBounds_toArray, List.set_cons_zero, List.set_cons_succ]
      refine takeD (i := 1) (v := .pointer (some ⟨g, k * 15, none⟩)) 16 rfl rfl (by kernel_rfl) (by kernel_rfl) (by kernel_rfl) (fun _ _ _ h => h) (.inl ⟨by rfl, fun W hW => exec_nil _ _ rfl rfl⟩) (rfl) ?_
      try simp only [Act.put, List.setIfInBounds_toArray, List.set_cons_zero, List.set_cons_succ]
      refine takeD (i := 2) (v := .pointer (some ⟨g, k * 15 + 4, none⟩)) 17 rfl rfl (by kernel_rfl) (by kernel_rfl) (by kernel_rfl) (fun _ _ _ h => h) (.inl ⟨by rfl, fun W hW => exec_fieldO 66 _ 1 g (k * 15) (k * 15 + 4) rfl rfl (fun w => by kernel_rfl)⟩) (rfl) ?_
      try simp only [Act.put, List.setIfInBounds_toArray, List.set_cons_zero, List.set_cons_succ]
      refine takeD (i := 3) (v := .int .i64 x.st) 18 rfl rfl (by kernel_rfl) (by kernel_rfl) (by kernel_rfl) (fun _ _ _ h => h) (.inl ⟨by rfl, fun W hW => exec_load1 3 one1 _ rfl g (k * 15 + 4) rfl (.int .i64 x.st) (by rw [hW]; exact c4)⟩) (rfl) ?_
      try simp only [Act.put, List.setIfInBounds_toArray, List.set_cons_zero, List.set_cons_succ]
      refine takeD (i := 4) (v := .bool true) 19 rfl rfl (by kernel_rfl) (by kernel_rfl) (by kernel_rfl) (fun _ _ _ h => h) (.inl ⟨by rfl, fun W hW => exec_eqi _ _ _ _ _ _ rfl rfl rfl q1⟩) (rfl) ?_
      try simp only [Act.put, List.setIfInBounds_toArray, List.set_cons_zero, List.set_cons_succ]
      refine takeD (i := 5) (v := .bool true) 20 rfl rfl (by kernel_rfl) (by kernel_rfl) (by kernel_rfl) (fun _ _ _ h => h) (.inl ⟨by rfl, fun W hW => exec_move _ _ rfl rfl⟩) (rfl) ?_
      try simp only [Act.put, List.setIfInBounds_toArray, List.set_cons_zero, List.set_cons_succ]
      refine takeD (i := 6) (v := undef) 21 rfl rfl (by kernel_rfl) (by kernel_rfl) (by kernel_rfl) (fun _ _ _ h => h) (.inr ⟨by rfl, rfl⟩) (rfl) ?_
      try simp only [Act.put, List.setIfInBounds_toArray, List.set_cons_zero, List.set_cons_succ]
      refine takeD (i := 7) (v := undef) 22 rfl rfl (by kernel_rfl) (by kernel_rfl) (by kernel_rfl) (fun _ _ _ h => h) (.inr ⟨by rfl, rfl⟩) (rfl) ?_
      try simp only [Act.put, List.setIfInBounds_toArray, List.set_cons_zero, List.set_cons_succ]
      refine takeD (i := 8) (v := undef) 23 rfl rfl (by kernel_rfl) (by kernel_rfl) (by kernel_rfl) (fun _ _ _ h => h) (.inr ⟨by rfl, rfl⟩) (rfl) ?_
      try simp only [Act.put, List.setIfInBounds_toArray, List.set_cons_zero, List.set_cons_succ]
      refine takeD (i := 9) (v := undef) 24 rfl rfl (by kernel_rfl) (by kernel_rfl) (by kernel_rfl) (fun _ _ _ h => h) (.inr ⟨by rfl, rfl⟩) (rfl) ?_
      try simp only [Act.put, List.setIfInBounds_toArray, List.set_cons_zero, List.set_cons_succ]
      refine takeD (i := 10) (v := undef) 25 rfl rfl (by kernel_rfl) (by kernel_rfl) (by kernel_rfl) (fun _ _ _ h => h) (.inr ⟨by rfl, rfl⟩) (rfl) ?_
      try simp only [Act.put, List.setIfInBounds_toArray, List.set_cons_zero, List.set_cons_succ]
      refine takeD (i := 11) (v := undef) 26 rfl rfl (by kernel_rfl) (by kernel_rfl) (by kernel_rfl) (fun _ _ _ h => h) (.inr ⟨by rfl, rfl⟩) (rfl) ?_
      try simp only [Act.put, List.setIfInBounds_toArray, List.set_cons_zero, List.set_cons_succ]
      refine takeD (i := 12) (v := undef) 27 rfl rfl (by kernel_rfl) (by kernel_rfl) (by kernel_rfl) (fun _ _ _ h => h) (.inr ⟨by rfl, rfl⟩) (rfl) ?_
      try simp only [Act.put, List.setIfInBounds_toArray, List.set_cons_zero, List.set_cons_succ]
      refine takeD (i := 13) (v := undef) 28 rfl rfl (by kernel_rfl) (by kernel_rfl) (by kernel_rfl) (fun _ _ _ h => h) (.inr ⟨by rfl, rfl⟩) (rfl) ?_
      try simp only [Act.put, List.setIfInBounds_toArray, List.set_cons_zero, List.set_cons_succ]
      refine takeD (i := 14) (v := undef) 29 rfl rfl (by kernel_rfl) (by kernel_rfl) (by kernel_rfl) (fun _ _ _ h => h) (.inr ⟨by rfl, rfl⟩) (rfl) ?_
      try simp only [Act.put, List.setIfInBounds_toArray, List.set_cons_zero, List.set_cons_succ]
      refine takeD (i := 15) (v := undef) 30 rfl rfl (by kernel_rfl) (by kernel_rfl) (by kernel_rfl) (fun _ _ _ h => h) (.inr ⟨by rfl, rfl⟩) (rfl) ?_
      try simp only [Act.put, List.setIfInBounds_toArray, List.set_cons_zero, List.set_cons_succ]
      refine takeD (i := 16) (v := undef) 31 rfl rfl (by kernel_rfl) (by kernel_rfl) (by kernel_rfl) (fun _ _ _ h => h) (.inr ⟨by rfl, rfl⟩) (rfl) ?_
      try simp only [Act.put, List.setIfInBounds_toArray, List.set_cons_zero, List.set_cons_succ]
      refine takeD (i := 17) (v := undef) 32 rfl rfl (by kernel_rfl) (by kernel_rfl) (by kernel_rfl) (fun _ _ _ h => h) (.inr ⟨by rfl, rfl⟩) (rfl) ?_
      try simp only [Act.put, List.setIfInBounds_toArray, List.set_cons_zero, List.set_cons_succ]
      refine takeD (i := 18) (v := undef) 33 rfl rfl (by kernel_rfl) (by kernel_rfl) (by kernel_rfl) (fun _ _ _ h => h) (.inr ⟨by rfl, rfl⟩) (rfl) ?_
      try simp only [Act.put, List.setIfInBounds_toArray, List.set_cons_zero, List.set_cons_succ]
      refine takeD (i := 19) (v := .bool true) 34 rfl rfl (by kernel_rfl) (by kernel_rfl) (by kernel_rfl) (fun _ _ _ h => h) (.inl ⟨by rfl, fun W hW => exec_pick _ _ _ true _ rfl rfl rfl⟩) (rfl) ?_
      try simp only [Act.put, List.setIfInBounds_toArray, List.set_cons_zero, List.set_cons_succ]
      refine doneR (by kernel_rfl) _ ?_
      clear c4 c11 cP2 fP2 q1 h1s
      gi_wp2
      exact ⟨KP0.out, FIN.out⟩
    · have q1 : (x.st == 1) = false := by simp [h1s]
      cases ho : old L k with
      | none =>
        have FIN := hide (FK.out (by rw [EK.out, if_neg h1s, ho]))
        have cP3 : Wd.cell? ⟨s, 0, none⟩ = some (.pointer none) := by rw [cP2]; unfold oldP; rw [ho]; rfl
        gi_wp2
        refine region_in (fun W => W = Wd) (by kernel_rfl) (by kernel_rfl) ?_
        rw [hWd]
        refine takeD (i := 0) (v := .pointer (some ⟨g, k * 15, none⟩)) 15 rfl rfl (by kernel_rfl) (by kernel_rfl) (by kernel_rfl) (fun _ _ _ h => h) (.inl ⟨by rfl, fun W hW => exec_move _ _ rfl rfl⟩) (rfl) ?_
        try simp only [Act.put, List.setIfInBounds_toArray, List.set_cons_zero, List.set_cons_succ]
        refine takeD (i := 1) (v := .pointer (some ⟨g, k * 15, none⟩)) 16 rfl rfl (by kernel_rfl) (by kernel_rfl) (by kernel_rfl) (fun _ _ _ h => h) (.inl ⟨by rfl, fun W hW => exec_nil _ _ rfl rfl⟩) (rfl) ?_
        try simp only [Act.put, List.setIfInBounds_toArray, List.set_cons_zero, List.set_cons_succ]
        refine takeD (i := 2) (v := .pointer (some ⟨g, k * 15 + 4, none⟩)) 17 rfl rfl (by kernel_rfl) (by kernel_rfl) (by kernel_rfl) (fun _ _ _ h => h) (.inl ⟨by rfl, fun W hW => exec_fieldO 66 _ 1 g (k * 15) (k * 15 + 4) rfl rfl (fun w => by kernel_rfl)⟩) (rfl) ?_
        try simp only [Act.put, List.setIfInBounds_toArray, List.set_cons_zero, List.set_cons_succ]
        refine takeD (i := 3) (v := .int .i64 x.st) 18 rfl rfl (by kernel_rfl) (by kernel_rfl) (by kernel_rfl) (fun _ _ _ h => h) (.inl ⟨by rfl, fun W hW => exec_load1 3 one1 _ rfl g (k * 15 + 4) rfl (.int .i64 x.st) (by rw [hW]; exact c4)⟩) (rfl) ?_
        try simp only [Act.put, List.setIfInBounds_toArray, List.set_cons_zero, List.set_cons_succ]
        refine takeD (i := 4) (v := .bool false) 19 rfl rfl (by kernel_rfl) (by kernel_rfl) (by kernel_rfl) (fun _ _ _ h => h) (.inl ⟨by rfl, fun W hW => exec_eqi _ _ _ _ _ _ rfl rfl rfl q1⟩) (rfl) ?_
        try simp only [Act.put, List.setIfInBounds_toArray, List.set_cons_zero, List.set_cons_succ]
        refine takeD (i := 5) (v := .bool false) 20 rfl rfl (by kernel_rfl) (by kernel_rfl) (by kernel_rfl) (fun _ _ _ h => h) (.inl ⟨by rfl, fun W hW => exec_move _ _ rfl rfl⟩) (rfl) ?_
        try simp only [Act.put, List.setIfInBounds_toArray, List.set_cons_zero, List.set_cons_succ]
        refine takeD (i := 6) (v := .pointer none) 21 rfl rfl (by kernel_rfl) (by kernel_rfl) (by kernel_rfl) (fun _ _ _ h => h) (.inl ⟨by rfl, fun W hW => exec_load1 82 oneP _ rfl s 0 rfl (.pointer none) (by rw [hW]; exact cP3)⟩) (rfl) ?_
        try simp only [Act.put, List.setIfInBounds_toArray, List.set_cons_zero, List.set_cons_succ]
        refine takeD (i := 7) (v := .bool false) 22 rfl rfl (by kernel_rfl) (by kernel_rfl) (by kernel_rfl) (fun _ _ _ h => h) (.inl ⟨by rfl, fun W hW => exec_nep _ _ _ none rfl rfl rfl⟩) (rfl) ?_
        try simp only [Act.put, List.setIfInBounds_toArray, List.set_cons_zero, List.set_cons_succ]
        refine takeD (i := 8) (v := .bool false) 23 rfl rfl (by kernel_rfl) (by kernel_rfl) (by kernel_rfl) (fun _ _ _ h => h) (.inl ⟨by rfl, fun W hW => exec_move _ _ rfl rfl⟩) (rfl) ?_
        try simp only [Act.put, List.setIfInBounds_toArray, List.set_cons_zero, List.set_cons_succ]
        refine takeD (i := 9) (v := undef) 24 rfl rfl (by kernel_rfl) (by kernel_rfl) (by kernel_rfl) (fun _ _ _ h => h) (.inr ⟨by rfl, rfl⟩) (rfl) ?_
        try simp only [Act.put, List.setIfInBounds_toArray, List.set_cons_zero, List.set_cons_succ]
        refine takeD (i := 10) (v := undef) 25 rfl rfl (by kernel_rfl) (by kernel_rfl) (by kernel_rfl) (fun _ _ _ h => h) (.inr ⟨by rfl, rfl⟩) (rfl) ?_
        try simp only [Act.put, List.setIfInBounds_toArray, List.set_cons_zero, List.set_cons_succ]
        refine takeD (i := 11) (v := undef) 26 rfl rfl (by kernel_rfl) (by kernel_rfl) (by kernel_rfl) (fun _ _ _ h => h) (.inr ⟨by rfl, rfl⟩) (rfl) ?_
        try simp only [Act.put, List.setIfInBounds_toArray, List.set_cons_zero, List.set_cons_succ]
        refine takeD (i := 12) (v := undef) 27 rfl rfl (by kernel_rfl) (by kernel_rfl) (by kernel_rfl) (fun _ _ _ h => h) (.inr ⟨by rfl, rfl⟩) (rfl) ?_
        try simp only [Act.put, List.setIfInBounds_toArray, List.set_cons_zero, List.set_cons_succ]
        refine takeD (i := 13) (v := undef) 28 rfl rfl (by kernel_rfl) (by kernel_rfl) (by kernel_rfl) (fun _ _ _ h => h) (.inr ⟨by rfl, rfl⟩) (rfl) ?_
        try simp only [Act.put, List.setIfInBounds_toArray, List.set_cons_zero, List.set_cons_succ]
        refine takeD (i := 14) (v := undef) 29 rfl rfl (by kernel_rfl) (by kernel_rfl) (by kernel_rfl) (fun _ _ _ h => h) (.inr ⟨by rfl, rfl⟩) (rfl) ?_
        try simp only [Act.put, List.setIfInBounds_toArray, List.set_cons_zero, List.set_cons_succ]
        refine takeD (i := 15) (v := undef) 30 rfl rfl (by kernel_rfl) (by kernel_rfl) (by kernel_rfl) (fun _ _ _ h => h) (.inr ⟨by rfl, rfl⟩) (rfl) ?_
        try simp only [Act.put, List.setIfInBounds_toArray, List.set_cons_zero, List.set_cons_succ]
        refine takeD (i := 16) (v := undef) 31 rfl rfl (by kernel_rfl) (by kernel_rfl) (by kernel_rfl) (fun _ _ _ h => h) (.inr ⟨by rfl, rfl⟩) (rfl) ?_
        try simp only [Act.put, List.setIfInBounds_toArray, List.set_cons_zero, List.set_cons_succ]
        refine takeD (i := 17) (v := undef) 32 rfl rfl (by kernel_rfl) (by kernel_rfl) (by kernel_rfl) (fun _ _ _ h => h) (.inr ⟨by rfl, rfl⟩) (rfl) ?_
        try simp only [Act.put, List.setIfInBounds_toArray, List.set_cons_zero, List.set_cons_succ]
        refine takeD (i := 18) (v := .bool false) 33 rfl rfl (by kernel_rfl) (by kernel_rfl) (by kernel_rfl) (fun _ _ _ h => h) (.inl ⟨by rfl, fun W hW => exec_pick _ _ _ false _ rfl rfl rfl⟩) (rfl) ?_
        try simp only [Act.put, List.setIfInBounds_toArray, List.set_cons_zero, List.set_cons_succ]
        refine takeD (i := 19) (v := .bool false) 34 rfl rfl (by kernel_rfl) (by kernel_rfl) (by kernel_rfl) (fun _ _ _ h => h) (.inl ⟨by rfl, fun W hW => exec_pick _ _ _ false _ rfl rfl rfl⟩) (rfl) ?_
        try simp only [Act.put, List.setIfInBounds_toArray, List.set_cons_zero, List.set_cons_succ]
        refine doneR (by kernel_rfl) _ ?_
        clear c4 c11 q1 h1s ho cP2
        gi_wp2
        exact ⟨KP1.out _, FIN.out⟩
      | some j =>
        obtain ⟨hj, y, hy, _⟩ := old_lt _ _ ho
        have cY : Wd.cell? ⟨g, j * 15 + 11, none⟩ = some (.int .i64 y.since) := ((HR1.out j y hy).but (by have := HS.out; have := HGL.out; have := HSZ.out; omega) HB2.out ngs) 11 _ rfl
        have ESJ : Hid ((L[j]?.map Nb.since).getD 0 = y.since) := by unfold Hid; rw [hy]; rfl
        have cP3 : Wd.cell? ⟨s, 0, none⟩ = some (.pointer (some ⟨g, j * 15, none⟩)) := by rw [cP2]; unfold oldP; rw [ho]; rfl
        have EK2 : Hid (old L (k + 1) = if y.since ≤ x.since then some j else some k) := by
          unfold Hid
          rw [EK.out, if_neg h1s, ho]
          simp only [ESJ.out]
        clear hy ESJ
        by_cases hle : y.since ≤ x.since
        · have q2 : decide (y.since ≤ x.since) = true := by simp [hle]
          have FIN := hide (FS.out k (by rw [EK2.out, if_pos hle, ho]) rfl)
          gi_wp2
          refine region_in (fun W => W = Wd) (by kernel_rfl) (by kernel_rfl) ?_
          rw [hWd]
          refine takeD (i := 0) (v := .pointer (some ⟨g, k * 15, none⟩)) 15 rfl rfl (by kernel_rfl) (by kernel_rfl) (by kernel_rfl) (fun _ _ _ h => h) (.inl ⟨by rfl, fun W hW => exec_move _ _ rfl rfl⟩) (rfl) ?_
          try simp only [Act.put, List.setIfInBounds_toArray, List.set_cons_zero, List.set_cons_succ]
          refine takeD (i := 1) (v := .pointer (some ⟨g, k * 15, none⟩)) 16 rfl rfl (by kernel_rfl) (by kernel_rfl) (by kernel_rfl) (fun _ _ _ h => h) (.inl ⟨by rfl, fun W hW => exec_nil _ _ rfl rfl⟩) (rfl) ?_
          try simp only [Act.put, List.setIfInBounds_toArray, List.set_cons_zero, List.set_cons_succ]
          refine takeD (i := 2) (v := .pointer (some ⟨g, k * 15 + 4, none⟩)) 17 rfl rfl (by kernel_rfl) (by kernel_rfl) (by kernel_rfl) (fun _ _ _ h => h) (.inl ⟨by rfl, fun W hW => exec_fieldO 66 _ 1 g (k * 15) (k * 15 + 4) rfl rfl (fun w => by kernel_rfl)⟩) (rfl) ?_
          try simp only [Act.put, List.setIfInBounds_toArray, List.set_cons_zero, List.set_cons_succ]
          refine takeD (i := 3) (v := .int .i64 x.st) 18 rfl rfl (by kernel_rfl) (by kernel_rfl) (by kernel_rfl) (fun _ _ _ h => h) (.inl ⟨by rfl, fun W hW => exec_load1 3 one1 _ rfl g (k * 15 + 4) rfl (.int .i64 x.st) (by rw [hW]; exact c4)⟩) (rfl) ?_
          try simp only [Act.put, List.setIfInBounds_toArray, List.set_cons_zero, List.set_cons_succ]
          refine takeD (i := 4) (v := .bool false) 19 rfl rfl (by kernel_rfl) (by kernel_rfl) (by kernel_rfl) (fun _ _ _ h => h) (.inl ⟨by rfl, fun W hW => exec_eqi _ _ _ _ _ _ rfl rfl rfl q1⟩) (rfl) ?_
          try simp only [Act.put, List.setIfInBounds_toArray, List.set_cons_zero, List.set_cons_succ]
          refine takeD (i := 5) (v := .bool false) 20 rfl rfl (by kernel_rfl) (by kernel_rfl) (by kernel_rfl) (fun _ _ _ h => h) (.inl ⟨by rfl, fun W hW => exec_move _ _ rfl rfl⟩) (rfl) ?_
          try simp only [Act.put, List.setIfInBounds_toArray, List.set_cons_zero, List.set_cons_succ]
          refine takeD (i := 6) (v := .pointer (some ⟨g, j * 15, none⟩)) 21 rfl rfl (by kernel_rfl) (by kernel_rfl) (by kernel_rfl) (fun _ _ _ h => h) (.inl ⟨by rfl, fun W hW => exec_load1 82 oneP _ rfl s 0 rfl (.pointer (some ⟨g, j * 15, none⟩)) (by rw [hW]; exact cP3)⟩) (rfl) ?_
          try simp only [Act.put, List.setIfInBounds_toArray, List.set_cons_zero, List.set_cons_succ]
          refine takeD (i := 7) (v := .bool true) 22 rfl rfl (by kernel_rfl) (by kernel_rfl) (by kernel_rfl) (fun _ _ _ h => h) (.inl ⟨by rfl, fun W hW => exec_nep _ _ _ (some ⟨g, j * 15, none⟩) rfl rfl rfl⟩) (rfl) ?_
          try simp only [Act.put, List.setIfInBounds_toArray, List.set_cons_zero, List.set_cons_succ]
          refine takeD (i := 8) (v := .bool true) 23 rfl rfl (by kernel_rfl) (by kernel_rfl) (by kernel_rfl) (fun _ _ _ h => h) (.inl ⟨by rfl, fun W hW => exec_move _ _ rfl rfl⟩) (rfl) ?_
          try simp only [Act.put, List.setIfInBounds_toArray, List.set_cons_zero, List.set_cons_succ]
          refine takeD (i := 9) (v := .pointer (some ⟨g, j * 15, none⟩)) 24 rfl rfl (by kernel_rfl) (by kernel_rfl) (by kernel_rfl) (fun _ _ _ h => h) (.inl ⟨by rfl, fun W hW => exec_load1 82 oneP _ rfl s 0 rfl (.pointer (some ⟨g, j * 15, none⟩)) (by rw [hW]; exact cP3)⟩) (rfl) ?_
          try simp only [Act.put, List.setIfInBounds_toArray, List.set_cons_zero, List.set_cons_succ]
          refine takeD (i := 10) (v := .pointer (some ⟨g, j * 15, none⟩)) 25 rfl rfl (by kernel_rfl) (by kernel_rfl) (by kernel_rfl) (fun _ _ _ h => h) (.inl ⟨by rfl, fun W hW => exec_nil _ _ rfl rfl⟩) (rfl) ?_
          try simp only [Act.put, List.setIfInBounds_toArray, List.set_cons_zero, List.set_cons_succ]
          refine takeD (i := 11) (v := .pointer (some ⟨g, j * 15 + 11, none⟩)) 26 rfl rfl (by kernel_rfl) (by kernel_rfl) (by kernel_rfl) (fun _ _ _ h => h) (.inl ⟨by rfl, fun W hW => exec_fieldO 66 _ 3 g (j * 15) (j * 15 + 11) rfl rfl (fun w => by kernel_rfl)⟩) (rfl) ?_
          try simp only [Act.put, List.setIfInBounds_toArray, List.set_cons_zero, List.set_cons_succ]
          refine takeD (i := 12) (v := .int .i64 y.since) 27 rfl rfl (by kernel_rfl) (by kernel_rfl) (by kernel_rfl) (fun _ _ _ h => h) (.inl ⟨by rfl, fun W hW => exec_load1 3 one1 _ rfl g (j * 15 + 11) rfl (.int .i64 y.since) (by rw [hW]; exact cY)⟩) (rfl) ?_
          try simp only [Act.put, List.setIfInBounds_toArray, List.set_cons_zero, List.set_cons_succ]
          refine takeD (i := 13) (v := .pointer (some ⟨g, k * 15, none⟩)) 28 rfl rfl (by kernel_rfl) (by kernel_rfl) (by kernel_rfl) (fun _ _ _ h => h) (.inl ⟨by rfl, fun W hW => exec_move _ _ rfl rfl⟩) (rfl) ?_
          try simp only [Act.put, List.setIfInBounds_toArray, List.set_cons_zero, List.set_cons_succ]
          refine takeD (i := 14) (v := .pointer (some ⟨g, k * 15, none⟩)) 29 rfl rfl (by kernel_rfl) (by kernel_rfl) (by kernel_rfl) (fun _ _ _ h => h) (.inl ⟨by rfl, fun W hW => exec_nil _ _ rfl rfl⟩) (rfl) ?_
          try simp only [Act.put, List.setIfInBounds_toArray, List.set_cons_zero, List.set_cons_succ]
          refine takeD (i := 15) (v := .pointer (some ⟨g, k * 15 + 11, none⟩)) 30 rfl rfl (by kernel_rfl) (by kernel_rfl) (by kernel_rfl) (fun _ _ _ h => h) (.inl ⟨by rfl, fun W hW => exec_fieldO 66 _ 3 g (k * 15) (k * 15 + 11) rfl rfl (fun w => by kernel_rfl)⟩) (rfl) ?_
          try simp only [Act.put, List.setIfInBounds_toArray, List.set_cons_zero, List.set_cons_succ]
          refine takeD (i := 16) (v := .int .i64 x.since) 31 rfl rfl (by kernel_rfl) (by kernel_rfl) (by kernel_rfl) (fun _ _ _ h => h) (.inl ⟨by rfl, fun W hW => exec_load1 3 one1 _ rfl g (k * 15 + 11) rfl (.int .i64 x.since) (by rw [hW]; exact c11)⟩) (rfl) ?_
          try simp only [Act.put, List.setIfInBounds_toArray, List.set_cons_zero, List.set_cons_succ]
          refine takeD (i := 17) (v := .bool true) 32 rfl rfl (by kernel_rfl) (by kernel_rfl) (by kernel_rfl) (fun _ _ _ h => h) (.inl ⟨by rfl, fun W hW => exec_lei _ _ _ _ _ _ rfl rfl rfl q2⟩) (rfl) ?_
          try simp only [Act.put, List.setIfInBounds_toArray, List.set_cons_zero, List.set_cons_succ]
          refine takeD (i := 18) (v := .bool true) 33 rfl rfl (by kernel_rfl) (by kernel_rfl) (by kernel_rfl) (fun _ _ _ h => h) (.inl ⟨by rfl, fun W hW => exec_pick _ _ _ true _ rfl rfl rfl⟩) (rfl) ?_
          try simp only [Act.put, List.setIfInBounds_toArray, List.set_cons_zero, List.set_cons_succ]
          refine takeD (i := 19) (v := .bool true) 34 rfl rfl (by kernel_rfl) (by kernel_rfl) (by kernel_rfl) (fun _ _ _ h => h) (.inl ⟨by rfl, fun W hW => exec_pick _ _ _ false _ rfl rfl rfl⟩) (rfl) ?_
          try simp only [Act.put, List.setIfInBounds_toArray, List.set_cons_zero, List.set_cons_succ]
          refine doneR (by kernel_rfl) _ ?_
          clear c4 c11 q1 h1s ho cP2 cP3 cY q2 hle
          gi_wp2
          exact ⟨KP0.out, FIN.out⟩
        · have q2 : decide (y.since ≤ x.since) = false := by simp [hle]
          have FIN := hide (FK.out (by rw [EK2.out, if_neg hle]))
          gi_wp2
          refine region_in (fun W => W = Wd) (by kernel_rfl) (by kernel_rfl) ?_
          rw [hWd]
          refine takeD (i := 0) (v := .pointer (some ⟨g, k * 15, none⟩)) 15 rfl rfl (by kernel_rfl) (by kernel_rfl) (by kernel_rfl) (fun _ _ _ h => h) (.inl ⟨by rfl, fun W hW => exec_move _ _ rfl rfl⟩) (rfl) ?_
          try simp only [Act.put, List.setIfInBounds_toArray, List.set_cons_zero, List.set_cons_succ]
          refine takeD (i := 1) (v := .pointer (some ⟨g, k * 15, none⟩)) 16 rfl rfl (by kernel_rfl) (by kernel_rfl) (by kernel_rfl) (fun _ _ _ h => h) (.inl ⟨by rfl, fun W hW => exec_nil _ _ rfl rfl⟩) (rfl) ?_
          try simp only [Act.put, List.setIfInBounds_toArray, List.set_cons_zero, List.set_cons_succ]
          refine takeD (i := 2) (v := .pointer (some ⟨g, k * 15 + 4, none⟩)) 17 rfl rfl (by kernel_rfl) (by kernel_rfl) (by kernel_rfl) (fun _ _ _ h => h) (.inl ⟨by rfl, fun W hW => exec_fieldO 66 _ 1 g (k * 15) (k * 15 + 4) rfl rfl (fun w => by kernel_rfl)⟩) (rfl) ?_
          try simp only [Act.put, List.setIfInBounds_toArray, List.set_cons_zero, List.set_cons_succ]
          refine takeD (i := 3) (v := .int .i64 x.st) 18 rfl rfl (by kernel_rfl) (by kernel_rfl) (by kernel_rfl) (fun _ _ _ h => h) (.inl ⟨by rfl, fun W hW => exec_load1 3 one1 _ rfl g (k * 15 + 4) rfl (.int .i64 x.st) (by rw [hW]; exact c4)⟩) (rfl) ?_
          try simp only [Act.put, List.setIfInBounds_toArray, List.set_cons_zero, List.set_cons_succ]
          refine takeD (i := 4) (v := .bool false) 19 rfl rfl (by kernel_rfl) (by kernel_rfl) (by kernel_rfl) (fun _ _ _ h => h) (.inl ⟨by rfl, fun W hW => exec_eqi _ _ _ _ _ _ rfl rfl rfl q1⟩) (rfl) ?_
          try simp only [Act.put, List.setIfInBounds_toArray, List.set_cons_zero, List.set_cons_succ]
          refine takeD (i := 5) (v := .bool false) 20 rfl rfl (by kernel_rfl) (by kernel_rfl) (by kernel_rfl) (fun _ _ _ h => h) (.inl ⟨by rfl, fun W hW => exec_move _ _ rfl rfl⟩) (rfl) ?_
          try simp only [Act.put, List.setIfInBounds_toArray, List.set_cons_zero, List.set_cons_succ]
          refine takeD (i := 6) (v := .pointer (some ⟨g, j * 15, none⟩)) 21 rfl rfl (by kernel_rfl) (by kernel_rfl) (by kernel_rfl) (fun _ _ _ h => h) (.inl ⟨by rfl, fun W hW => exec_load1 82 oneP _ rfl s 0 rfl (.pointer (some ⟨g, j * 15, none⟩)) (by rw [hW]; exact cP3)⟩) (rfl) ?_
          try simp only [Act.put, List.setIfInBounds_toArray, List.set_cons_zero, List.set_cons_succ]
          refine takeD (i := 7) (v := .bool true) 22 rfl rfl (by kernel_rfl) (by kernel_rfl) (by kernel_rfl) (fun _ _ _ h => h) (.inl ⟨by rfl, fun W hW => exec_nep _ _ _ (some ⟨g, j * 15, none⟩) rfl rfl rfl⟩) (rfl) ?_
          try simp only [Act.put, List.setIfInBounds_toArray, List.set_cons_zero, List.set_cons_succ]
          refine takeD (i := 8) (v := .bool true) 23 rfl rfl (by kernel_rfl) (by kernel_rfl) (by kernel_rfl) (fun _ _ _ h => h) (.inl ⟨by rfl, fun W hW => exec_move _ _ rfl rfl⟩) (rfl) ?_
          try simp only [Act.put, List.setIfInBounds_toArray, List.set_cons_zero, List.set_cons_succ]
          refine takeD (i := 9) (v := .pointer (some ⟨g, j * 15, none⟩)) 24 rfl rfl (by kernel_rfl) (by kernel_rfl) (by kernel_rfl) (fun _ _ _ h => h) (.inl ⟨by rfl, fun W hW => exec_load1 82 oneP _ rfl s 0 rfl (.pointer (some ⟨g, j * 15, none⟩)) (by rw [hW]; exact cP3)⟩) (rfl) ?_
          try simp only [Act.put, List.setIfInBounds_toArray, List.set_cons_zero, List.set_cons_succ]
          refine takeD (i := 10) (v := .pointer (some ⟨g, j * 15, none⟩)) 25 rfl rfl (by kernel_rfl) (by kernel_rfl) (by kernel_rfl) (fun _ _ _ h => h) (.inl ⟨by rfl, fun W hW => exec_nil _ _ rfl rfl⟩) (rfl) ?_
          try simp only [Act.put, List.setIfInBounds_toArray, List.set_cons_zero, List.set_cons_succ]
          refine takeD (i := 11) (v := .pointer (some ⟨g, j * 15 + 11, none⟩)) 26 rfl rfl (by kernel_rfl) (by kernel_rfl) (by kernel_rfl) (fun _ _ _ h => h) (.inl ⟨by rfl, fun W hW => exec_fieldO 66 _ 3 g (j * 15) (j * 15 + 11) rfl rfl (fun w => by kernel_rfl)⟩) (rfl) ?_
          try simp only [Act.put, List.setIfInBounds_toArray, List.set_cons_zero, List.set_cons_succ]
          refine takeD (i := 12) (v := .int .i64 y.since) 27 rfl rfl (by kernel_rfl) (by kernel_rfl) (by kernel_rfl) (fun _ _ _ h => h) (.inl ⟨by rfl, fun W hW => exec_load1 3 one1 _ rfl g (j * 15 + 11) rfl (.int .i64 y.since) (by rw [hW]; exact cY)⟩) (rfl) ?_
          try simp only [Act.put, List.setIfInBounds_toArray, List.set_cons_zero, List.set_cons_succ]
          refine takeD (i := 13) (v := .pointer (some ⟨g, k * 15, none⟩)) 28 rfl rfl (by kernel_rfl) (by kernel_rfl) (by kernel_rfl) (fun _ _ _ h => h) (.inl ⟨by rfl, fun W hW => exec_move _ _ rfl rfl⟩) (rfl) ?_
          try simp only [Act.put, List.setIfInBounds_toArray, List.set_cons_zero, List.set_cons_succ]
          refine takeD (i := 14) (v := .pointer (some ⟨g, k * 15, none⟩)) 29 rfl rfl (by kernel_rfl) (by kernel_rfl) (by kernel_rfl) (fun _ _ _ h => h) (.inl ⟨by rfl, fun W hW => exec_nil _ _ rfl rfl⟩) (rfl) ?_
          try simp only [Act.put, List.setIfInBounds_toArray, List.set_cons_zero, List.set_cons_succ]
          refine takeD (i := 15) (v := .pointer (some ⟨g, k * 15 + 11, none⟩)) 30 rfl rfl (by kernel_rfl) (by kernel_rfl) (by kernel_rfl) (fun _ _ _ h => h) (.inl ⟨by rfl, fun W hW => exec_fieldO 66 _ 3 g (k * 15) (k * 15 + 11) rfl rfl (fun w => by kernel_rfl)⟩) (rfl) ?_
          try simp only [Act.put, List.setIfInBounds_toArray, List.set_cons_zero, List.set_cons_succ]
          refine takeD (i := 16) (v := .int .i64 x.since) 31 rfl rfl (by kernel_rfl) (by kernel_rfl) (by kernel_rfl) (fun _ _ _ h => h) (.inl ⟨by rfl, fun W hW => exec_load1 3 one1 _ rfl g (k * 15 + 11) rfl (.int .i64 x.since) (by rw [hW]; exact c11)⟩) (rfl) ?_
          try simp only [Act.put, List.setIfInBounds_toArray, List.set_cons_zero, List.set_cons_succ]
          refine takeD (i := 17) (v := .bool false) 32 rfl rfl (by kernel_rfl) (by kernel_rfl) (by kernel_rfl) (fun _ _ _ h => h) (.inl ⟨by rfl, fun W hW => exec_lei _ _ _ _ _ _ rfl rfl rfl q2⟩) (rfl) ?_
          try simp only [Act.put, List.setIfInBounds_toArray, List.set_cons_zero, List.set_cons_succ]
          refine takeD (i := 18) (v := .bool false) 33 rfl rfl (by kernel_rfl) (by kernel_rfl) (by kernel_rfl) (fun _ _ _ h => h) (.inl ⟨by rfl, fun W hW => exec_pick _ _ _ true _ rfl rfl rfl⟩) (rfl) ?_
          try simp only [Act.put, List.setIfInBounds_toArray, List.set_cons_zero, List.set_cons_succ]
          refine takeD (i := 19) (v := .bool false) 34 rfl rfl (by kernel_rfl) (by kernel_rfl) (by kernel_rfl) (fun _ _ _ h => h) (.inl ⟨by rfl, fun W hW => exec_pick _ _ _ false _ rfl rfl rfl⟩) (rfl) ?_
          try simp only [Act.put, List.setIfInBounds_toArray, List.set_cons_zero, List.set_cons_succ]
          refine doneR (by kernel_rfl) _ ?_
          clear c4 c11 q1 h1s ho cP2 cY q2 hle
          gi_wp2
          exact ⟨KP1.out _, FIN.out⟩
  case done =>
    intro D k W hD hk hI hDW
    subst hk
    obtain ⟨hb, cP, fP⟩ := hI
    have HDW := hide hDW
    have HD := hide hD
    have HSZ := hide hsz
    clear hDW hD hsz
    cases ho : old L 8 with
    | none =>
      have cP3 : W.cell? ⟨s, 0, none⟩ = some (.pointer none) := by rw [cP]; unfold oldP; rw [ho]; rfl
      have BE : Hid (Below w.heap.size w W) := HB0.out.trans (hb.below HB0.out.size (fun q hq e => by have e : q = s := e; have := HS.out; omega))
      clear cP
      gi_wp2
      have hb3 := BE.out.grown (grownBy_putObj' _ D (.deferred none)) BE.out.size (fun r e => by cases e; have := HD.out; have := HSZ.out; have := HS.out; omega)
      simp only [Exit.noGoto]
      refine ⟨by simp, .inl ⟨_, _, rfl, run_takeDeferred HDW.out, ?_⟩⟩
      exact ⟨.bool false, by simp [results, go_sem], .inl ⟨ho, rfl, hb3⟩⟩
    | some j =>
      obtain ⟨hj, x, hx, _⟩ := old_lt _ _ ho
      have cP3 : W.cell? ⟨s, 0, none⟩ = some (.pointer (some ⟨g, j * 15, none⟩)) := by rw [cP]; unfold oldP; rw [ho]; rfl
      have BE : Below w.heap.size w W := HB0.out.trans (hb.below HB0.out.size (fun q hq e => by have e : q = s := e; have := HS.out; omega))
      have cx := (hR1 j x hx).but (by have := HS.out; have := HGL.out; have := HSZ.out; omega) hb (fun e => by have e : g = s := e; have := HS.out; have := HGL.out; omega)
      have x0 := cx 0 _ rfl
      have x1 := cx 1 _ rfl
      have x2 := cx 2 _ rfl
      have x3 := cx 3 _ rfl
      have cbL : W.cell? ⟨b, 10, none⟩ = some (.slice (some ⟨g, 0, none⟩) 8 c) := (hb.cell (p := ⟨b, 10, none⟩) (by have := HS.out; have := HBL.out; have := HSZ.out; show b < _; omega) (fun e => by have e : b = s := e; have := HS.out; have := HBL.out; omega)).trans cL1
      simp only [Nat.add_zero] at x0
      obtain ⟨t, ht⟩ : ∃ t, t = W.heap.size := ⟨_, rfl⟩
      obtain ⟨w2, hw2⟩ : ∃ w2, w2 = W.alloc (.cells #[.int .u8 x.ip.a, .int .u8 x.ip.b, .int .u8 x.ip.c, .int .u8 x.ip.d] 25) := ⟨_, rfl⟩
      have b2 : Below W.heap.size W w2 := by rw [hw2]; exact (Below.refl _ W).alloc (Nat.le_refl _) _
      have c2 : CellsAt w2 t 0 x.ip.vals := by rw [hw2, ht]; exact CellsAt.new W x.ip.vals 25
      have bl2 : w2.cell? ⟨b, 10, none⟩ = some (.slice (some ⟨g, 0, none⟩) 8 c) := (b2.cell (p := ⟨b, 10, none⟩) (World.block_lt_of_cell? W _ cbL)).trans cbL
      have B02 : Below w.heap.size w w2 := BE.trans (b2.mono BE.size)
      have fb2 : w2.frozen? ⟨b, 10, none⟩ = false := (B02.frozen (p := ⟨b, 10, none⟩) HBL.out).trans fL
      have R2 := HR.out.but (K := fun _ => False) (But.of_below (B02.mono (Nat.le_refl _))) (fun _ _ => id)
      have htg : t ≠ g := by have := HGL.out; have := BE.size; omega
      have hl := HL.out
      rw [hl] at R2
      have DF := hide (DeleteFunc_any (w := w2) g c t 7 j L V x.ip (by rw [hl]) (by omega) c2 htg R2 HV.out x hx (eqI_self _) (fun q y hq hy => by
        by_cases e : eqI y.ip x.ip = true
        · have e : y.ip = x.ip := by simpa [eqI] using e
          have hp := List.pairwise_iff_getElem.1 HIPS.out
          obtain ⟨l1, e1⟩ := List.getElem?_eq_some_iff.1 hy
          obtain ⟨l2, e2⟩ := List.getElem?_eq_some_iff.1 hx
          rcases Nat.lt_or_gt_of_ne hq with h' | h'
          · have := hp q j (by simpa using l1) (by simpa using l2) h'
            simp [e1, e2, e] at this
          · have := hp j q (by simpa using l2) (by simpa using l1) h'
            simp [e1, e2, e] at this
        · simpa using e))
      have D2 : Hid (w2.heap[D]? = some (.deferred (some []))) := (b2.block D (Array.getElem?_eq_some_iff.1 HDW.out).1).trans HDW.out
      have B2 := hide B02
      have HT := hide ht
      have HO := hide ho
      clear cP BE cx hl R2 c2 b2 B02 ho hx
      have hw2' := hw2.symm
      have ht' := ht.symm
      clear hw2 ht
      gi_wp2_with fail
      clear hw2' ht'
      refine ⟨trivial, callsIn_wide.2 ?_⟩
      refine DF.out.mono ?_
      rintro _ w3 ⟨rfl, R3, b3⟩
      have ng : ¬ Only g b := hbg
      have bl3 : w3.cell? ⟨b, 10, none⟩ = some (.slice (some ⟨g, 0, none⟩) 8 c) := (b3.cell (p := ⟨b, 10, none⟩) (World.block_lt_of_cell? w2 _ bl2) ng).trans bl2
      have fb3 : w3.frozen? ⟨b, 10, none⟩ = false := (b3.frozen (p := ⟨b, 10, none⟩) (World.block_lt_of_cell? w2 _ bl2) ng).trans fb2
      have gD : D ≠ g := by have := HD.out; have := HSZ.out; have := HS.out; have := HGL.out; omega
      have D3 : Hid (w3.heap[D]? = some (.deferred (some []))) := (b3.block D (Array.getElem?_eq_some_iff.1 D2.out).1 gD).trans D2.out
      have RE := hide R3
      have BE3 : Hid (But (Only g) w w3) := (But.of_below B2.out).trans b3
      clear R3 b3 DF cP3 x0 x1 x2 x3 cbL bl2 fb2 hb
      gi_wp2
      have gDb : D ≠ b := by have := HD.out; have := HSZ.out; have := HS.out; have := HBL.out; omega
      have D4 : (w3.setCell ⟨b, 10, none⟩ (.slice (some ⟨g, 0, none⟩) 7 c)).heap[D]? = some (.deferred (some [])) := (Below.heap_setCell _ _ _ _ gDb).trans D3.out
      have sz3 := BE3.out.size
      have hb4 := (Below.refl w.heap.size (w3.setCell ⟨b, 10, none⟩ (.slice (some ⟨g, 0, none⟩) 7 c))).grown (grownBy_putObj' _ D (.deferred none)) (by simp; omega) (fun r e => by cases e; have := HD.out; have := HSZ.out; have := HS.out; omega)
      simp only [Exit.noGoto]
      refine ⟨by simp, .inl ⟨_, _, rfl, run_takeDeferred D4, ?_⟩⟩
      exact ⟨.bool true, by simp [results, go_sem], .inr ⟨j, w3, HO.out, rfl, hb4, RE.out, BE3.out⟩⟩
end Go.Proofs.Ytdcpnjlldocdcaa
