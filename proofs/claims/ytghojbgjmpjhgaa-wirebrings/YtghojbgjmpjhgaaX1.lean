
/-
  A list of calls that came in; a call in memory of one's own; strings of bytes. What holds of the numbers between calls of wires and devices, and that each call keeps it.
-/
import Derived.Test.YtghojbgjmpjhgaaW17
import Derived.Lib.SmallJoins
namespace Go.Proofs.Ytghojbgjmpjhgaa
open Go.RowKit

/-- the string of these bytes -/
def strB (bs : List Int) : ByteArray := bs.foldl (fun r n => r.push (UInt8.ofNat n.toNat)) ByteArray.empty

theorem conv_str {A : Nat → Prop} {W : World} {v : Value} {bs : List Int} (h : IsF A W v bs) : (convert 27 9 v).run Try.prog W = .ok (.string (strB bs)) W := by
  obtain ⟨a, cap, rfl, hl, hn, hc⟩ := h
  rw [run_convert_bytes_string (P := Try.prog) W 27 9 5 a bs.length cap Try.underlying27 Try.underlying5 Try.underlying9]
  cases a with
  | none =>
    have h0 := hn rfl
    have : bs = [] := List.eq_nil_of_length_eq_zero (by omega)
    subst this
    rfl
  | some ad =>
    refine run_bytesToString W ad bs.length cap bs ?_
    have := run_loadCells_list (P := Try.prog) W ad (bs.map (Value.int .u8)) (fun j v hv => by
      have hj : j < bs.length := by have := (List.getElem?_eq_some_iff.1 hv).1; simpa using this
      obtain ⟨b, off, e, _, _, hcs⟩ := hc (by omega)
      cases e
      rw [Addr.add_lit, hcs j hj]
      simp only [List.getElem?_map, List.getElem?_eq_getElem hj, Option.map_some, Option.some.injEq] at hv
      simp [List.getElem?_eq_getElem hj, hv])
    simpa using this

/-- bytes that were written out lie in a new block -/
theorem lit_F (w : World) (bs : List Int) (A : Nat → Prop) (hA : ¬ A w.heap.size) (fr : Nat × Nat) : IsF A (w.alloc (.cells (bs.map (Value.int .u8)).toArray 5 fr)) (.slice (some ⟨w.heap.size, 0, none⟩) bs.length bs.length) bs := by
  refine ⟨_, _, rfl, Nat.le_refl _, (fun e => by cases e), fun _ => ⟨w.heap.size, 0, rfl, by simp, hA, fun j hj => ?_⟩⟩
  rw [Nat.zero_add, cell_of_row _ w.heap.size j _ 5 fr (heap_alloc_new w _)]
  simp [hj]

theorem conv_same (w : World) (C : Array Value) (n c : Nat) : (convert 27 27 (.slice (some ⟨w.heap.size, 0, none⟩) n c)).run Try.prog (w.alloc (.cells C 5)) = .ok (.slice (some ⟨w.heap.size, 0, none⟩) n c) (w.alloc (.cells C 5 (C.size, C.size + 1))) :=
  Lib.run_convert_bytes_const w _ _ C n c Try.underlying27 Try.underlying5

theorem IsF.alloc {A : Nat → Prop} {w : World} {v : Value} {bs : List Int} (h : IsF A w v bs) (o : Obj) : IsF A (w.alloc o) v bs := h.but (K := fun _ => False) ((But.refl _ _).alloc o) (fun _ e => e.elim)

/-- bytes -/
def Byt (bs : List Int) : Prop := ∀ b ∈ bs, 0 ≤ b ∧ b ≤ 255

/-- a call -/
structure OpV where
  kind : Int
  id : Int
  a : Int
  b : Int
  dv : Value
  ds : List Int

/-- THE SLICE VALUE v HOLDS THE CALLS l, all of it below n₀ -/
def IsO (n₀ : Nat) (W : World) (v : Value) (l : List OpV) : Prop :=
  ∃ a cap, v = .slice a l.length cap ∧ (0 < l.length → ∃ g off, a = some ⟨g, off, none⟩ ∧ g < n₀ ∧ ∀ i o, l[i]? = some o →
      W.cell? ⟨g, off + i * 5, none⟩ = some (.int .i64 o.kind) ∧ W.cell? ⟨g, off + i * 5 + 1, none⟩ = some (.int .i64 o.id) ∧ W.cell? ⟨g, off + i * 5 + 2, none⟩ = some (.int .i64 o.a) ∧ W.cell? ⟨g, off + i * 5 + 3, none⟩ = some (.int .i64 o.b) ∧ W.cell? ⟨g, off + i * 5 + 4, none⟩ = some o.dv) ∧
    ∀ o ∈ l, IsF (fun g => n₀ ≤ g) W o.dv o.ds ∧ o.ds.length ≤ 140737488351232 ∧ Byt o.ds

theorem IsF.below {n₀ : Nat} {W W' : World} {v : Value} {bs : List Int} (h : IsF (fun g => n₀ ≤ g) W v bs) (hb : Below n₀ W W') : IsF (fun g => n₀ ≤ g) W' v bs := by
  obtain ⟨a, cap, e, hl, hn, hc⟩ := h
  refine ⟨a, cap, e, hl, hn, fun h0 => ?_⟩
  obtain ⟨b, off, e1, hb1, ha, hcs⟩ := hc h0
  exact ⟨b, off, e1, Nat.lt_of_lt_of_le hb1 hb.size, ha, fun j hj => (hb.cell (p := ⟨b, off + j, none⟩) (by simp at ha; exact ha)).trans (hcs j hj)⟩
theorem IsO.below {n₀ : Nat} {W W' : World} {v : Value} {l : List OpV} (h : IsO n₀ W v l) (hb : Below n₀ W W') : IsO n₀ W' v l := by
  obtain ⟨a, cap, e, hc, hf⟩ := h
  refine ⟨a, cap, e, fun h0 => ?_, fun o ho => ⟨(hf o ho).1.below hb, (hf o ho).2⟩⟩
  obtain ⟨g, off, e1, hg, hcs⟩ := hc h0
  have key : ∀ k, W'.cell? ⟨g, k, none⟩ = W.cell? ⟨g, k, none⟩ := fun k => hb.cell (p := ⟨g, k, none⟩) hg
  refine ⟨g, off, e1, hg, fun i o hi => ?_⟩
  obtain ⟨q0, q1, q2, q3, q4⟩ := hcs i o hi
  exact ⟨(key _).trans q0, (key _).trans q1, (key _).trans q2, (key _).trans q3, (key _).trans q4⟩

/-- the five cells of a call -/
structure Five (W : World) (s : Nat) (k id a b : Int) (dv : Value) : Prop where
  c0 : W.cell? ⟨s, 0, none⟩ = some (.int .i64 k)
  c1 : W.cell? ⟨s, 1, none⟩ = some (.int .i64 id)
  c2 : W.cell? ⟨s, 2, none⟩ = some (.int .i64 a)
  c3 : W.cell? ⟨s, 3, none⟩ = some (.int .i64 b)
  c4 : W.cell? ⟨s, 4, none⟩ = some dv
theorem Five.lt {W : World} {s : Nat} {k id a b : Int} {dv : Value} (h : Five W s k id a b dv) : s < W.heap.size := World.block_lt_of_cell? W _ h.c0
theorem Five.but {W W' : World} {s : Nat} {k id a b : Int} {dv : Value} {K : Nat → Prop} (h : Five W s k id a b dv) (hb : But K W W') (hk : ¬ K s) : Five W' s k id a b dv :=
  ⟨(hb.cell (p := ⟨s, 0, none⟩) h.lt hk).trans h.c0, (hb.cell (p := ⟨s, 1, none⟩) h.lt hk).trans h.c1, (hb.cell (p := ⟨s, 2, none⟩) h.lt hk).trans h.c2, (hb.cell (p := ⟨s, 3, none⟩) h.lt hk).trans h.c3, (hb.cell (p := ⟨s, 4, none⟩) h.lt hk).trans h.c4⟩
theorem Five.new (w : World) (k id a b : Int) (dv : Value) (t : TypeId) : Five (w.alloc (.cells #[.int .i64 k, .int .i64 id, .int .i64 a, .int .i64 b, dv] t)) w.heap.size k id a b dv := by
  have hc : ∀ i v, (#[Value.int .i64 k, .int .i64 id, .int .i64 a, .int .i64 b, dv] : Array Value)[i]? = some v → (w.alloc (.cells #[.int .i64 k, .int .i64 id, .int .i64 a, .int .i64 b, dv] t)).cell? ⟨w.heap.size, i, none⟩ = some v := fun i v h => by
    rw [cell_of_row _ w.heap.size i _ t (0, 0) (heap_alloc_new w _)]; exact h
  exact ⟨hc 0 _ rfl, hc 1 _ rfl, hc 2 _ rfl, hc 3 _ rfl, hc 4 _ rfl⟩



theorem flip_fin : ∀ x : Fin 256, ∀ m : Fin 8, (0 ≤ flipB (x.val : Int) m.val ∧ flipB (x.val : Int) m.val ≤ 255) ∧ flipB (flipB (x.val : Int) m.val) m.val = (x.val : Int) := by decide +kernel
theorem flipB_byte {x : Int} {m : Nat} (h : 0 ≤ x ∧ x ≤ 255) (hm : m < 8) : (0 ≤ flipB x m ∧ flipB x m ≤ 255) ∧ flipB (flipB x m) m = x := by
  have := flip_fin ⟨x.toNat, by omega⟩ ⟨m, hm⟩
  simp only at this
  rw [show ((x.toNat : Nat) : Int) = x by omega] at this
  exact this
theorem Byt.fl {bs : List Int} (h : Byt bs) (t : Nat) : Byt (flip bs t) := by
  intro b hb
  unfold flip at hb
  by_cases ht : t / 8 < bs.length
  · rcases List.mem_or_eq_of_mem_set hb with hb | rfl
    · exact h b hb
    · rw [List.getElem?_eq_getElem ht]
      exact (flipB_byte (h _ (List.getElem_mem ht)) (by omega)).1
  · rw [List.set_eq_of_length_le (by omega)] at hb
    exact h b hb
/-- a frame that is damaged twice at one bit is as it was -/
theorem Byt.fl2 {bs : List Int} (h : Byt bs) (t : Nat) : flip (flip bs t) t = bs := by
  unfold flip
  by_cases ht : t / 8 < bs.length
  · rw [List.getElem?_set_self ht, List.set_set, List.getElem?_eq_getElem ht]
    simp only [Option.getD_some]
    rw [(flipB_byte (h _ (List.getElem_mem ht)) (by omega)).2]
    exact List.set_getElem_self ht
  · rw [List.set_eq_of_length_le (by rw [List.length_set]; omega), List.set_eq_of_length_le (by omega)]

/-- a device's clock, when its frames were posted, and that they are bytes -/
structure DI (ck : Int) (D : Dev) : Prop where
  clk : D.clock = ck
  pst : ∀ j, j < 16 → 0 ≤ D.posted j ∧ D.posted j ≤ ck
  tx : ∀ j, Byt (D.txf j)
theorem DI.same {ck : Int} {D D' : Dev} (h : DI ck D) (e1 : D'.clock = D.clock) (e2 : D'.posted = D.posted) (e3 : D'.txf = D.txf) : DI ck D' := ⟨e1.trans h.clk, by rw [e2]; exact h.pst, by rw [e3]; exact h.tx⟩
theorem DI.tk {ck : Int} {D : Dev} (h : DI ck D) : DI ck D.tkD := h.same tk_posted.2 tk_posted.1 (by unfold Dev.tkD; split <;> rfl)
theorem DI.st {ck : Int} {D : Dev} (h : DI ck D) (i : Int) (f : List Int) (hf : Byt f) : DI ck (D.stD i f) := by
  unfold Dev.stD; split
  · refine ⟨h.clk, h.pst, fun j => ?_⟩
    show Byt (upd D.txf i.toNat f j)
    unfold upd
    split
    · exact hf
    · exact h.tx j
  · exact h
theorem DI.sr {ck : Int} {D : Dev} (h : DI ck D) (i r : Int) : DI ck (D.srD i r) := by
  unfold Dev.srD; split
  · exact h.same rfl rfl rfl
  · exact h
theorem DI.gv {ck : Int} {D : Dev} (h : DI ck D) (f : List Int) (x : Bool) : DI ck (D.gvD f x) := by
  unfold Dev.gvD; split
  · exact h
  · split
    · exact h.same rfl rfl rfl
    · exact h.same rfl rfl rfl
theorem DI.lk {ck : Int} {D : Dev} (h : DI ck D) (x : Bool) : DI ck (D.lkD x) := by
  unfold Dev.lkD; split
  · exact h
  · exact h.same rfl rfl rfl
theorem DI.wr {ck : Int} {D : Dev} (h0 : 0 ≤ ck) (h : DI ck D) (r v : Int) : DI ck (D.wrD r v) := by
  unfold Dev.wrD
  split
  · exact ⟨h.clk, fun j _ => by show 0 ≤ (0 : Int) ∧ (0 : Int) ≤ ck; omega, fun j b hb => by cases hb⟩
  · split
    · exact h.same rfl rfl rfl
    · split
      · exact h.same rfl rfl rfl
      · split
        · refine ⟨h.clk, fun j hj => ?_, h.tx⟩
          show 0 ≤ (if _ then D.clock else D.posted j) ∧ (if _ then D.clock else D.posted j) ≤ ck
          split
          · rw [h.clk]; omega
          · exact h.pst j hj
        · exact h
theorem wrap_add (x : Int) (h0 : 0 ≤ x) (h1 : x ≤ 4611686018427387904) : wrap64 (x + 1) = x + 1 := by
  unfold wrap64; omega
theorem DI.tick {ck : Int} {D : Dev} (h0 : 0 ≤ ck) (h1 : ck ≤ 4611686018427387904) (h : DI ck D) : DI (ck + 1) D.tick := by
  refine ⟨?_, fun j hj => ?_, h.tx⟩
  · show wrap64 (D.clock + 1) = ck + 1
    rw [h.clk]; exact wrap_add ck h0 h1
  · have := h.pst j hj
    show 0 ≤ D.posted j ∧ D.posted j ≤ ck + 1
    omega
theorem DI.lg {ck : Int} (c : Int) (n : Nat) : ∀ {D : Dev}, DI ck D → DI ck (lg n c D) := by
  induction n with
  | zero => intro D h; exact h
  | succ n ih =>
    intro D h
    show DI ck (if _ then _ else _)
    split
    · exact ih h.tk
    · exact h
theorem DI.new : DI 0 Dev.new := ⟨rfl, fun _ _ => ⟨Int.le_refl _, Int.le_refl _⟩, fun _ b hb => by cases hb⟩

/-- WHAT HOLDS BETWEEN CALLS: the clock, the devices, the frames on their way; m calls were made -/
structure Inv (ck : Int) (l : Nat → List Frm) (D : Nat → Dev) (m : Nat) : Prop where
  ck0 : 0 ≤ ck ∧ ck ≤ (m : Int)
  dv : ∀ i, i < 2 → DI ck (D i)
  tk : ∀ i, i < 2 → ∀ f ∈ l i, 0 ≤ f.tick ∧ f.tick ≤ ck
  ln : ∀ i, i < 2 → (l i).length ≤ m
  bt : ∀ i, i < 2 → ∀ f ∈ l i, Byt f.bs

section
variable {ck : Int} {l : Nat → List Frm} {D : Nat → Dev} {m : Nat}
theorem Inv.more (h : Inv ck l D m) : Inv ck l D (m + 1) := ⟨⟨h.ck0.1, by have := h.ck0.2; omega⟩, h.dv, h.tk, (fun i hi => by have := h.ln i hi; omega), h.bt⟩
theorem Inv.acts (h : Inv ck l D m) (k : Nat) {D' : Dev} (hd : DI ck D') : Inv ck l (upd D k D') m := ⟨h.ck0, fun i hi => by
  by_cases e : i = k
  · rw [e, upd_same]; exact hd
  · rw [upd_other _ _ _ _ e]; exact h.dv i hi, h.tk, h.ln, h.bt⟩
theorem Inv.list (h : Inv ck l D m) (k : Nat) {f' : List Frm} (ht : k < 2 → ∀ f ∈ f', 0 ≤ f.tick ∧ f.tick ≤ ck) (hl : k < 2 → f'.length ≤ m + 1) (hy : k < 2 → ∀ f ∈ f', Byt f.bs) : Inv ck (upd l k f') D (m + 1) := ⟨h.more.ck0, h.dv, fun i hi => by
  by_cases e : i = k
  · subst e; rw [upd_same]; exact ht hi
  · rw [upd_other _ _ _ _ e]; exact h.tk i hi, fun i hi => by
  by_cases e : i = k
  · subst e; rw [upd_same]; exact hl hi
  · rw [upd_other _ _ _ _ e]; have := h.ln i hi; omega, fun i hi => by
  by_cases e : i = k
  · subst e; rw [upd_same]; exact hy hi
  · rw [upd_other _ _ _ _ e]; exact h.bt i hi⟩

theorem Inv.pull (h : Inv ck l D m) (ok : ∀ i, i < 2 → (D i).Ok) (d : Int) : Inv ck (plA l D ck d) (plD D d) (m + 1) := by
  have h1 : Inv ck l (plD D d) m := by
    unfold plD
    split
    · rename_i hd
      obtain ⟨i, rfl, hi⟩ := isDir_nat hd
      rw [Int.toNat_natCast]
      exact h.acts i (h.dv i hi).tk
    · exact h
  unfold plA
  split
  · rename_i hc
    obtain ⟨i, rfl, hi⟩ := isDir_nat hc.1
    rw [Int.toNat_natCast] at hc ⊢
    refine h1.list i (fun _ f hf => ?_) (fun _ => by rw [List.length_append]; have := h.ln i hi; simp; omega) (fun _ f hf => ?_)
    rotate_left
    · rcases List.mem_append.1 hf with hf | hf
      · exact h.bt i hi f hf
      · rw [List.mem_singleton.1 hf]
        show Byt (D i).tkF
        unfold Dev.tkF
        rw [if_pos hc.2.1]
        exact (h.dv i hi).tx _
    rcases List.mem_append.1 hf with hf | hf
    · exact h.tk i hi f hf
    · rw [List.mem_singleton.1 hf]
      show 0 ≤ (D i).tkT ∧ (D i).tkT ≤ ck
      unfold Dev.tkT
      rw [if_pos hc.2.1]
      exact (h.dv i hi).pst _ (by have := (ok i hi).ring 4 (by omega) (by omega); omega)
  · exact h1.more

theorem thE_dir {n : Nat → Nat} {d k : Int} (h : thE n d k = 0) : ∃ i : Nat, d = (i : Int) ∧ i < 2 ∧ ∃ j : Nat, k = (j : Int) ∧ j < n i := by
  unfold thE at h
  split at h
  · rename_i hd
    obtain ⟨i, rfl, hi⟩ := isDir_nat hd
    rw [Int.toNat_natCast] at h
    split at h
    · rename_i hk
      exact ⟨i, rfl, hi, k.toNat, by omega, by omega⟩
    · omega
  · omega

def drA (l : Nat → List Frm) (d k : Int) : Nat → List Frm := if thE (fun i => (l i).length) d k = 0 then upd l d.toNat ((l d.toNat).eraseIdx k.toNat) else l
theorem ab_drL (L : Nat → List (Value × Frm)) (d k : Int) : ab (drL L d k) = drA (ab L) d k := by
  unfold drL drA
  rw [lens_ab]
  split
  · rw [ab_upd]
    have : ((L d.toNat).eraseIdx k.toNat).map Prod.snd = ((L d.toNat).map Prod.snd).eraseIdx k.toNat := by
      rw [List.eraseIdx_eq_take_drop_succ, List.eraseIdx_eq_take_drop_succ]; simp [List.map_take, List.map_drop]
    rw [this]; rfl
  · rfl
theorem Inv.drop (h : Inv ck l D m) (d k : Int) : Inv ck (drA l d k) D (m + 1) := by
  unfold drA; split
  · rename_i hc
    obtain ⟨i, rfl, hi, j, rfl, hj⟩ := thE_dir hc
    rw [Int.toNat_natCast, Int.toNat_natCast]
    exact h.list i (fun _ f hf => h.tk i hi f (mem_erase hf)) (fun _ => by have := h.ln i hi; have := List.length_eraseIdx_le (l i) j; omega) (fun _ f hf => h.bt i hi f (mem_erase hf))
  · exact h.more
theorem getD_mem {α : Type} {l : List α} {j : Nat} (h : j < l.length) (x : α) : (l[j]?).getD x ∈ l := by
  rw [List.getElem?_eq_getElem h]; exact List.getElem_mem h
theorem Inv.double (h : Inv ck l D m) (d k : Int) : Inv ck (dbA l d k) D (m + 1) := by
  unfold dbA; split
  · rename_i hc
    obtain ⟨i, rfl, hi, j, rfl, hj⟩ := thE_dir hc
    rw [Int.toNat_natCast, Int.toNat_natCast]
    refine h.list i (fun _ f hf => ?_) (fun _ => by rw [List.length_append]; have := h.ln i hi; simp; omega) (fun _ f hf => ?_)
    rotate_left
    · rcases List.mem_append.1 hf with hf | hf
      · exact h.bt i hi f hf
      · rw [List.mem_singleton.1 hf]; exact h.bt i hi _ (getD_mem hj _)
    rcases List.mem_append.1 hf with hf | hf
    · exact h.tk i hi f hf
    · rw [List.mem_singleton.1 hf]; exact h.tk i hi _ (getD_mem hj _)
  · exact h.more
theorem mvE_dir {l : Nat → List Frm} {d k t : Int} (h : mvE l d k t = 0) : ∃ i : Nat, d = (i : Int) ∧ i < 2 ∧ ∃ j u : Nat, k = (j : Int) ∧ j < (l i).length ∧ t = (u : Int) ∧ u < (l i).length := by
  unfold mvE at h
  split at h
  · rename_i hc
    obtain ⟨i, rfl, hi, j, rfl, hj⟩ := thE_dir hc
    rw [Int.toNat_natCast] at h
    split at h
    · rename_i ht
      exact ⟨i, rfl, hi, j, t.toNat, rfl, hj, by omega, by omega⟩
    · omega
  · rename_i hc; exact absurd h hc
theorem moved_mem {α : Type} {l : List α} {k t : Nat} {p q : α} (h : q ∈ moved l k t p) : q = p ∨ q ∈ l := by
  unfold moved at h
  rcases List.mem_append.1 h with h | h
  · rcases List.mem_append.1 h with h | h
    · exact .inr (mem_erase (List.mem_of_mem_take h))
    · exact .inl (List.mem_singleton.1 h)
  · exact .inr (mem_erase (List.mem_of_mem_drop h))
theorem moved_len {α : Type} {l : List α} {k t : Nat} {p : α} (h : k < l.length) : (moved l k t p).length = l.length := by
  unfold moved
  have : (l.eraseIdx k).length = l.length - 1 := by rw [List.length_eraseIdx, if_pos h]
  simp only [List.length_append, List.length_take, List.length_drop, List.length_cons, List.length_nil, this]
  omega
theorem Inv.move (h : Inv ck l D m) (d k t : Int) : Inv ck (mvA l d k t) D (m + 1) := by
  unfold mvA; split
  · rename_i hc
    obtain ⟨i, rfl, hi, j, u, rfl, hj, rfl, hu⟩ := mvE_dir hc
    rw [Int.toNat_natCast, Int.toNat_natCast, Int.toNat_natCast]
    refine h.list i (fun _ f hf => ?_) (fun _ => by rw [moved_len hj]; have := h.ln i hi; omega) (fun _ f hf => ?_)
    rotate_left
    · rcases moved_mem hf with rfl | hf
      · exact h.bt i hi _ (getD_mem hj _)
      · exact h.bt i hi f hf
    rcases moved_mem hf with rfl | hf
    · exact h.tk i hi _ (getD_mem hj _)
    · exact h.tk i hi f hf
  · exact h.more
theorem dmE_dir {l : Nat → List Frm} {d k t : Int} (h : dmE l d k t = 0) : ∃ i : Nat, d = (i : Int) ∧ i < 2 ∧ ∃ j u : Nat, k = (j : Int) ∧ j < (l i).length ∧ t = (u : Int) ∧ u < 8 * (((l i)[j]?).getD ⟨[], false, 0⟩).bs.length := by
  unfold dmE at h
  split at h
  · rename_i hc
    obtain ⟨i, rfl, hi, j, rfl, hj⟩ := thE_dir hc
    rw [Int.toNat_natCast, Int.toNat_natCast] at h
    split at h
    · rename_i ht
      exact ⟨i, rfl, hi, j, t.toNat, rfl, hj, by omega, by omega⟩
    · omega
  · rename_i hc; exact absurd h hc
theorem mem_set' {α : Type} {l : List α} {k : Nat} {x q : α} (h : q ∈ l.set k x) : q = x ∨ q ∈ l := by
  rcases List.mem_or_eq_of_mem_set h with h | h
  · exact .inr h
  · exact .inl h
theorem Inv.damage (h : Inv ck l D m) (d k t : Int) : Inv ck (dmA l d k t) D (m + 1) := by
  unfold dmA; split
  · rename_i hc
    obtain ⟨i, rfl, hi, j, u, rfl, hj, rfl, hu⟩ := dmE_dir hc
    rw [Int.toNat_natCast, Int.toNat_natCast, Int.toNat_natCast]
    refine h.list i (fun _ f hf => ?_) (fun _ => by rw [List.length_set]; have := h.ln i hi; omega) (fun _ f hf => ?_)
    rotate_left
    · rcases mem_set' hf with rfl | hf
      · exact (h.bt i hi _ (getD_mem hj ⟨[], false, 0⟩)).fl _
      · exact h.bt i hi f hf
    rcases mem_set' hf with rfl | hf
    · have := h.tk i hi _ (getD_mem hj ⟨[], false, 0⟩)
      exact this
    · exact h.tk i hi f hf
  · exact h.more

def lkA (l : Nat → List Frm) (d k : Int) : Frm := if thE (fun i => (l i).length) d k = 0 then ((l d.toNat)[k.toNat]?).getD ⟨[], false, 0⟩ else ⟨[], false, 0⟩
theorem look_ab (L : Nat → List (Value × Frm)) (d k : Int) : look L d k = lkA (ab L) d k := by
  unfold look lkA
  rw [lens_ab]
  unfold ab
  rw [List.getElem?_map]
def dlEA (l : Nat → List Frm) (D : Nat → Dev) (d k : Int) : Int := if thE (fun i => (l i).length) d k = 0 then (D (1 - d.toNat)).gvE (lkA l d k).bs else thE (fun i => (l i).length) d k
def dlDA (l : Nat → List Frm) (D : Nat → Dev) (d k : Int) : Nat → Dev := if thE (fun i => (l i).length) d k = 0 then upd D (1 - d.toNat) ((D (1 - d.toNat)).gvD (lkA l d k).bs (lkA l d k).bad) else D
theorem dlE_ab (L : Nat → List (Value × Frm)) (D : Nat → Dev) (d k : Int) : dlE L D d k = dlEA (ab L) D d k := by unfold dlE dlEA; rw [lens_ab, look_ab]
theorem dlD_ab (L : Nat → List (Value × Frm)) (D : Nat → Dev) (d k : Int) : dlD L D d k = dlDA (ab L) D d k := by unfold dlD dlDA; rw [lens_ab, look_ab]
theorem Inv.deliver (h : Inv ck l D m) (d k : Int) : Inv ck (drA l d k) (dlDA l D d k) (m + 1) := by
  have h1 : Inv ck l (dlDA l D d k) m := by
    unfold dlDA; split
    · rename_i hc
      obtain ⟨i, rfl, hi, j, rfl, hj⟩ := thE_dir hc
      exact h.acts _ ((h.dv _ (by omega)).gv _ _)
    · exact h
  exact h1.drop d k
theorem Inv.tick (h : Inv ck l D m) (hm : m ≤ 4611686018427387903) : Inv (ck + 1) (tiA l (ck + 1)) (tiD D (ck + 1)) (m + 1) := by
  have hc := h.ck0
  have key : ∀ i, i < 2 → DI (ck + 1) (lg 16 (ck + 1) (D i).tick) := fun i hi => ((h.dv i hi).tick hc.1 (by omega)).lg _ _
  have flt : ∀ i, i < 2 → ∀ f ∈ (l i).filter (fun f => !old (ck + 1) f.tick), 0 ≤ f.tick ∧ f.tick ≤ ck + 1 := fun i hi f hf => by have := h.tk i hi f (List.mem_filter.1 hf).1; omega
  have len : ∀ i, i < 2 → ((l i).filter (fun f => !old (ck + 1) f.tick)).length ≤ m + 1 := fun i hi => by have := h.ln i hi; have := List.length_filter_le (fun f => !old (ck + 1) f.tick) (l i); omega
  have byt : ∀ i, i < 2 → ∀ f ∈ (l i).filter (fun f => !old (ck + 1) f.tick), Byt f.bs := fun i hi f hf => h.bt i hi f (List.mem_filter.1 hf).1
  refine ⟨⟨by omega, by omega⟩, fun i hi => ?_, fun i hi => ?_, fun i hi => ?_, fun i hi => ?_⟩
  all_goals have : i = 0 ∨ i = 1 := by omega
  · unfold tiD
    rcases this with rfl | rfl
    · rw [upd_other _ _ _ _ (by omega), upd_same]; exact key 0 hi
    · rw [upd_same]; exact key 1 hi
  · unfold tiA
    rcases this with rfl | rfl
    · rw [upd_other _ _ _ _ (by omega), upd_same]; exact flt 0 hi
    · rw [upd_same]; exact flt 1 hi
  · unfold tiA
    rcases this with rfl | rfl
    · rw [upd_other _ _ _ _ (by omega), upd_same]; exact len 0 hi
    · rw [upd_same]; exact len 1 hi
  · unfold tiA
    rcases this with rfl | rfl
    · rw [upd_other _ _ _ _ (by omega), upd_same]; exact byt 0 hi
    · rw [upd_same]; exact byt 1 hi
end

end Go.Proofs.Ytghojbgjmpjhgaa
