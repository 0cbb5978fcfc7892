
/-
  Contracts: New, goOn, reset, bytes.Clone.
-/
import Derived.Test.YtjkfjijnjkpbbaaNNic1
namespace Go.Proofs.Ytjkfjijnjkpbbaa
open Go.RowKit

/-- the cells of a device that is all noughts -/
def zc (L : Lay) (i : Nat) : Value :=
  if i < 8 ∨ i = L.oc then .int .i64 0 else if L.oq ≤ i then (if (i - L.oq) % 4 = 0 then .int .i64 0 else if (i - L.oq) % 4 = 2 then .slice none 0 0 else .bool false)
  else if (i - L.ot) % 2 = 0 then .slice none 0 0 else .int .i64 0

theorem zeroN (w : World) : Sem.run Try.prog (zeroValue 116) w = .ok (.agg ((List.range 105).map (zc LN)).toArray) w := by kernel_rfl

theorem zero_one (L : Lay) (i : Nat) : (zc L i).oneCell' = true := by
  unfold zc
  split
  · rfl
  · split
    · split
      · rfl
      · split <;> rfl
    · split <;> rfl

/-- a new block of noughts, the link up -/
theorem new_dev (L : Lay) (hL : L.Ok) (A : Nat → Prop) (w : World) (t : TypeId) (hA : A w.heap.size) (Z : Array Value) (hZ : Z = ((List.range 105).map (zc L)).toArray) :
    DevAt L A (w.alloc (.cells (Z.setIfInBounds 1 (.int .i64 1)) t)) w.heap.size Dev.new := by
  unfold Lay.Ok at hL
  have hcell : ∀ i, i < 105 → (w.alloc (.cells (Z.setIfInBounds 1 (.int .i64 1)) t)).cell? ⟨w.heap.size, i, none⟩ = some (upd (zc L) 1 (.int .i64 1) i) := by
    intro i hi
    rw [cell_of_row _ w.heap.size i _ t (0, 0) (heap_alloc_new w _), hZ]
    by_cases e : i = 1
    · subst e; simp [upd]
    · rw [Array.getElem?_setIfInBounds_ne (by omega), upd_other _ _ _ _ e]
      simp [hi]
  refine ⟨hA, upd (zc L) 1 (.int .i64 1), ⟨hcell, fun i => ?_, fun i _ => ?_⟩, ⟨fun i hi => ?_, ?_, fun i hi => ?_, fun i hi => ?_, fun i hi => ?_, fun i hi => ?_, fun i hi => ?_, fun i hi => ?_⟩⟩
  · unfold World.frozen?
    rw [heap_alloc_new w]
    simp
  · by_cases e : i = 1
    · subst e; rw [upd_same]; rfl
    · rw [upd_other _ _ _ _ e]; exact zero_one L i
  · by_cases e : i = 1
    · subst e; simp [upd, Dev.new]
    · simp [upd, e, Dev.new, zc, hi]
  · rw [upd_other _ _ _ _ (by omega)]; simp [zc, Dev.new]
  · rw [upd_other _ _ _ _ (by omega)]
    have : zc L (L.ot + i * 2) = .slice none 0 0 := by
      unfold zc; rw [if_neg (by omega), if_neg (by omega), if_pos (by omega)]
    rw [this]; exact IsF.nil _ _
  · rw [upd_other _ _ _ _ (by omega)]
    unfold zc; rw [if_neg (by omega), if_neg (by omega), if_neg (by omega)]; rfl
  · rw [upd_other _ _ _ _ (by omega)]
    unfold zc; rw [if_neg (by omega), if_pos (by omega), if_pos (by omega)]; rfl
  · rw [upd_other _ _ _ _ (by omega)]
    unfold zc; rw [if_neg (by omega), if_pos (by omega), if_neg (by omega), if_neg (by omega)]; rfl
  · rw [upd_other _ _ _ _ (by omega)]
    have : zc L (L.oq + i * 4 + 2) = .slice none 0 0 := by
      unfold zc; rw [if_neg (by omega), if_pos (by omega), if_neg (by omega), if_pos (by omega)]
    rw [this]; exact IsF.nil _ _
  · rw [upd_other _ _ _ _ (by omega)]
    unfold zc; rw [if_neg (by omega), if_pos (by omega), if_neg (by omega), if_neg (by omega)]; rfl

theorem New_any (w : World) : Calls Try.prog 31 #[] w fun e w' => e = .returned (.pointer (some ⟨w.heap.size, 0, none⟩)) ∧ (∀ A : Nat → Prop, A w.heap.size → DevAt LN A w' w.heap.size Dev.new) ∧ Below w.heap.size w w' ∧ w'.heap.size = w.heap.size + 1 := by
  obtain ⟨Z, hZ⟩ : ∃ Z : Array Value, Z = ((List.range 105).map (zc LN)).toArray := ⟨_, rfl⟩
  have hz := zeroN
  rw [← hZ] at hz
  have hs : Z.size = 105 := by rw [hZ]; rfl
  have HZ := hide hZ
  clear hZ
  go_enter Try.func31, Try.ntmps31
  go_wp2
  go_ret
  exact ⟨rfl, fun A hA => new_dev LN LN_ok A w _ hA Z HZ.out, (Below.refl _ w).alloc (Nat.le_refl _) _, by simp⟩

theorem nxt_nat (k : Nat) : nxt (k : Int) = ((k : Int) + 1) % 16 := rfl
theorem goOn_tx {A : Nat → Prop} {b : Nat} {D : Dev} {w : World} (h : DevAt LN A w b D) (ok : D.Ok) :
    Calls Try.prog 58 #[.pointer (some ⟨b, 0, none⟩), .int .i64 4, .int .i64 2] w fun e w' => e = .returned (.tuple #[]) ∧ DevAt LN A w' b { D with r := upd (upd D.r 4 (nxt (D.r 4))) 6 (evor (D.r 6) 2) } ∧ But (Only b) w w' := by
  obtain ⟨k, hk, hk16⟩ := toNat_of (ok.ring 4 (by omega) (by omega))
  have c4 := h.creg 4 (by omega)
  have c6 := h.creg 6 (by omega)
  have f4 := h.frozen 4
  have f6 := h.frozen 6
  rw [← evor_bits _ _ ok.ev.1 ok.ev.2 (by omega)]
  generalize D.r 6 = y at c6 ⊢
  rw [hk] at c4 ⊢
  rw [nxt_nat]
  have H := hide h
  clear h ok hk
  go_enter Try.func58, Try.ntmps58
  go_wp2
  go_region
  go_wp2
  go_region
  go_wp2
  go_end0
  exact ⟨rfl, ((H.out.setReg LN_ok 4 (by omega) _).setReg LN_ok 6 (by omega) _).drew.drew, (((But.refl _ _).cellb _ _).cellb _ _).drew.drew⟩
theorem goOn_rx {A : Nat → Prop} {b : Nat} {D : Dev} {w : World} (h : DevAt LN A w b D) (ok : 0 ≤ D.r 2 ∧ D.r 2 ≤ 15) (ev : 0 ≤ D.r 6 ∧ D.r 6 ≤ 7) :
    Calls Try.prog 58 #[.pointer (some ⟨b, 0, none⟩), .int .i64 2, .int .i64 1] w fun e w' => e = .returned (.tuple #[]) ∧ DevAt LN A w' b { D with r := upd (upd D.r 2 (nxt (D.r 2))) 6 (evor (D.r 6) 1) } ∧ But (Only b) w w' := by
  obtain ⟨k, hk, hk16⟩ := toNat_of ok
  have c4 := h.creg 2 (by omega)
  have c6 := h.creg 6 (by omega)
  have f4 := h.frozen 2
  have f6 := h.frozen 6
  rw [← evor_bits _ _ ev.1 ev.2 (by omega)]
  generalize D.r 6 = y at c6 ⊢
  rw [hk] at c4 ⊢
  rw [nxt_nat]
  have H := hide h
  clear h ok hk ev
  go_enter Try.func58, Try.ntmps58
  go_wp2
  go_region
  go_wp2
  go_region
  go_wp2
  go_end0
  exact ⟨rfl, ((H.out.setReg LN_ok 2 (by omega) _).setReg LN_ok 6 (by omega) _).drew.drew, (((But.refl _ _).cellb _ _).cellb _ _).drew.drew⟩

/-- bytes.Clone: the same bytes, in new memory -/
theorem Clone_any {A : Nat → Prop} {v : Value} {bs : List Int} {w : World} (h : IsF A w v bs) (hl : bs.length ≤ 140737488355328) :
    Calls Try.prog 49 #[v] w fun e w' => ∃ v', e = .returned v' ∧ Gro w.heap.size w' v' bs ∧ Below w.heap.size w w' := by
  obtain ⟨a, cap, rfl, hlc, hn⟩ := h.shape
  have H := hide h
  have q22 : ∀ (w : World) (a : Option Addr) (n c n' c' : Nat), (binOp .eql 27 (.slice a n c) (.slice none n' c')).run Try.prog w = .ok (.bool a.isNone) w := fun w a n c n' c' => Lib.run_eql_slice_nil w _ _ a n c n' c' Try.underlying27
  clear h
  cases a with
  | none =>
    have h0 := hn rfl
    have : bs = [] := List.eq_nil_of_length_eq_zero (by omega)
    subst this
    clear hn H
    go_enter Try.func49, Try.ntmps49
    go_wp2
    go_ret
    exact ⟨_, rfl, Gro.nil _ _, Below.refl _ _⟩
  | some ad =>
    clear hn
    go_enter Try.func49, Try.ntmps49
    go_wp2_with (at_builtin; refine wpList_grow rfl _ _ rfl rfl w.heap.size A _ _ [] bs rfl rfl ?g1 ?g2 ?g3 ?g4 bs ?g5 ?_)
    · exact World.ownsRow_made w #[] 0 (Nat.le_refl _) (Nat.zero_le _) rfl
    · exact H.out.but (K := fun _ => False) ((But.refl _ _).alloc _) (fun _ e => e.elim)
    · simp
    · simpa using hl
    · simp
    intro a' cap' w' _ hG hB
    go_wp2
    go_ret
    exact ⟨_, rfl, hG, ((Below.refl _ w).alloc (Nat.le_refl _) _).trans hB⟩

theorem Gro.shape {B : Nat} {W : World} {v : Value} {bs : List Int} (h : Gro B W v bs) : ∃ a cap, v = .slice a bs.length cap ∧ bs.length ≤ cap := by
  obtain ⟨a, cap, e, hl, _⟩ := (h.isF (A := fun _ => False) (fun _ _ => id)).shape
  exact ⟨a, cap, e, hl⟩

/-- all cells of one block laid into another one -/
theorem Blk.copied {W : World} {b g : Nat} {V U : Nat → Value} (hb : Blk W b V) (hg : Blk W g U) :
    ∃ W', (∀ P, (loadCells ⟨g, 0, none⟩ 105).run P W = .ok ((List.range 105).map U).toArray W) ∧ (∀ P, (storeCells ⟨b, 0, none⟩ ((List.range 105).map U) 0).run P W = .ok () W') ∧ Blk W' b U ∧ But (Only b) W W' := by
  have hl : ((List.range 105).map U).length = 105 := by simp
  refine ⟨W.setCells b 0 ((List.range 105).map U), fun P => run_loadCells W ⟨g, 0, none⟩ 105 U (fun j hj => by simpa [Addr.add_lit] using hg.cell j hj), fun P => ?_, ⟨fun i hi => ?_, fun i => ?_, hg.one⟩, ?_⟩
  · have := run_storeCells_cells (P := P) b 0 ((List.range 105).map U) 0 W (fun j hj => by rw [hl] at hj; rw [show 0 + 0 + j = j by omega, hb.cell j hj]; rfl) (fun j hj => hb.frozen _)
      (fun v hv => by obtain ⟨i, hi, rfl⟩ := List.mem_map.1 hv; exact hg.one i (by simpa using hi))
    simpa using this
  · have := World.cell?_setCells_in b ((List.range 105).map U) 0 W (fun i hi => by rw [hl] at hi; rw [show 0 + i = i by omega, hb.cell i hi]; rfl) i (by rw [hl]; exact hi)
    rw [show 0 + i = i by omega] at this
    rw [this]
    simp
  · rw [World.frozen?_setCells]; exact hb.frozen i
  · have key : ∀ (vs : List Value) (o : Nat) (w : World), But (Only b) w (w.setCells b o vs) := by
      intro vs
      induction vs with
      | nil => intro o w; exact But.refl _ _
      | cons v r ih => intro o w; exact ((But.refl _ _).cellb o v).trans (ih (o + 1) _)
    exact key _ _ _

/-- a whole device is loaded, is stored -/
theorem wpList_load_blk {ops : Array Oper} {rest : List Oper} {o : Oper} {a : Act} {w : World} {Q : Exit → Act → World → Prop} (hgd : o.guard = none) (ty : TypeId) (x : Operand) (ho : o.op = .load ty x)
    (hagg : ∀ w, (isAgg ty).run Try.prog w = .ok true w) (hsz : ∀ w, (Go.sizeOf ty).run Try.prog w = .ok 105 w)
    (g : Nat) (hx : a.eval x = .pointer (some ⟨g, 0, none⟩)) (U : Nat → Value) (hg : Blk w g U)
    (h : wpList Try.prog ops Q rest (a.put o.dst (.agg ((List.range 105).map U).toArray)) w) : wpList Try.prog ops Q (o :: rest) a w := by
  obtain ⟨W', h1, _⟩ := hg.copied hg
  refine wpList_plain hgd fun K hK => ?_
  unfold Oper.wp execOp
  simp only [ho, hx, Instr.loadAt, Instr.sureAddr, loadVar, Sem.run_bind, Sem.run_pure, Result.andThen_ok, hagg, hsz, if_true, h1]
  exact hK _ _ h
theorem wpList_store_blk {ops : Array Oper} {rest : List Oper} {o : Oper} {a : Act} {w : World} {Q : Exit → Act → World → Prop} (hgd : o.guard = none) (ty : TypeId) (x y : Operand) (ho : o.op = .store ty x y)
    (hsz : ∀ w, (Go.sizeOf ty).run Try.prog w = .ok 105 w)
    (b g : Nat) (hx : a.eval x = .pointer (some ⟨b, 0, none⟩)) (U V : Nat → Value) (hy : a.eval y = .agg ((List.range 105).map U).toArray) (hb : Blk w b V) (hg : Blk w g U)
    (h : ∀ W', Blk W' b U → But (Only b) w W' → wpList Try.prog ops Q rest (a.put o.dst undef) W') : wpList Try.prog ops Q (o :: rest) a w := by
  obtain ⟨W', _, h1, h2, h3⟩ := hb.copied hg
  refine wpList_plain hgd fun K hK => ?_
  unfold Oper.wp execOp
  have hl : (((List.range 105).map U).toArray).size = 105 := by simp
  simp only [ho, hx, hy, Instr.storeAt, Instr.sureAddr, storeVar, Sem.run_bind, Sem.run_pure, Result.andThen_ok, hsz, Value.cells, hl, ne_eq, not_true, if_false, h1]
  exact hK _ _ (h W' h2 h3)
theorem reset_eq (D : Dev) : D.reset = { Dev.new with r := upd Dev.new.r 1 (D.r 1), clock := D.clock } := by
  have : upd Dev.new.r 1 (D.r 1) = upd (fun _ => 0) 1 (D.r 1) := by
    funext i
    by_cases e : i = 1
    · simp [upd, e]
    · simp [upd, e, Dev.new]
  unfold Dev.reset
  rw [this]
theorem aggN (w : World) : (isAgg 116).run Try.prog w = .ok true w := by kernel_rfl
theorem sizN (w : World) : (Go.sizeOf 116).run Try.prog w = .ok 105 w := by kernel_rfl

theorem reset_any {A : Nat → Prop} {b : Nat} {D : Dev} {w : World} (h : DevAt LN A w b D) : Calls Try.prog 83 #[.pointer (some ⟨b, 0, none⟩)] w fun e w' => e = .returned (.tuple #[]) ∧ DevAt LN A w' b D.reset ∧ But (Only b) w w' := by
  have H := hide h
  clear h
  go_enter Try.func83, Try.ntmps83
  go_wp2_with fail
  refine (New_any w).mono ?_
  rintro e w1 ⟨rfl, hN, hb1, hs1⟩
  have n1 := hN (fun _ => True) trivial
  have h1 := H.out.but (K := fun _ => False) (But.of_below hb1) (fun _ e => e.elim) id
  have hne := H.out.lt
  obtain ⟨g, hg⟩ : ∃ g, g = w.heap.size := ⟨_, rfl⟩
  rw [← hg] at n1 ⊢
  have hbg : b < g := by omega
  have c1 := h1.creg 1 (by omega)
  have c8 : w1.cell? ⟨b, 8, none⟩ = some (.int .i64 D.clock) := h1.cclock LN_ok
  have e1 := n1.creg 1 (by omega)
  have e8 : w1.cell? ⟨g, 8, none⟩ = some (.int .i64 Dev.new.clock) := n1.cclock LN_ok
  have f1 := n1.frozen 1
  have f8 := n1.frozen 8
  have HN := hide n1
  have H1 := hide h1
  have HB := hide hb1
  have HG := hide hg
  clear n1 h1 hN hb1 hs1 hg hne
  obtain ⟨x, hx⟩ : ∃ x, x = D.r 1 := ⟨_, rfl⟩
  obtain ⟨y, hy⟩ : ∃ y, y = D.clock := ⟨_, rfl⟩
  rw [← hx] at c1
  rw [← hy] at c8
  have HX := hide hx
  have HY := hide hy
  clear hx hy
  go_wp2
  go_region
  go_upto_region 3 with fail
  have d2 : DevAt LN (fun _ => True) (((w1.setCell ⟨g, 1, none⟩ (.int .i64 x)).setCell ⟨g, 8, none⟩ (.int .i64 y)).drew) g { Dev.new with r := upd Dev.new.r 1 x, clock := y } := ((HN.out.setReg LN_ok 1 (by omega) x).setClock LN_ok y).drew
  have b2 : But (Only g) w1 (((w1.setCell ⟨g, 1, none⟩ (.int .i64 x)).setCell ⟨g, 8, none⟩ (.int .i64 y)).drew) := (((But.refl _ _).cellb _ _).cellb _ _).drew
  generalize ((w1.setCell ⟨g, 1, none⟩ (.int .i64 x)).setCell ⟨g, 8, none⟩ (.int .i64 y)).drew = W2 at *
  obtain ⟨_, U, hU, rU⟩ := d2
  obtain ⟨ha, V, hV0, _⟩ := H1.out
  have hV := hV0.but b2 (show ¬ b = g by omega)
  clear hV0
  have HU := hide hU
  have HV := hide hV
  have HR := hide rU
  clear hU rU hV
  go_wp2_with (first | (refine wpList_load_blk rfl _ _ rfl aggN sizN g rfl U HU.out ?_) | (refine wpList_store_blk rfl _ _ _ rfl sizN b g rfl U V rfl HV.out HU.out ?_))
  intro W' hB3 hb3
  go_wp2
  go_end0
  refine ⟨rfl, ⟨ha, U, hB3, ?_⟩, ?_⟩
  · rw [reset_eq, ← HX.out, ← HY.out]
    exact (HR.out.avoid (A' := A) (fun _ _ _ => trivial)).but hb3 (fun g e => e ▸ ha)
  · exact ((But.of_below HB.out).trans' b2 (fun k hk e => by have := HG.out; unfold Only at e; omega)).trans hb3

end Go.Proofs.Ytjkfjijnjkpbbaa
