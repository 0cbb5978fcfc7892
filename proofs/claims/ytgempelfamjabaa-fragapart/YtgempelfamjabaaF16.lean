
/-
  Package frag: inOrder.
-/
import Derived.Test.YtgempelfamjabaaF15
namespace Go.Proofs.Ytgempelfamjabaa
open Go.RowKit Go.Shelf
attribute [local go_sem] Oper.semAt_some

/-- the pieces that follow one another from e on, up to a last one -/
def ordF (L : List Pc) : Nat → Int → Option (List Pc)
  | 0, _ => none
  | f + 1, e => match L.find? (fun x => x.at_ == e) with
    | none => none
    | some x => if x.last = true then some [x] else (ordF L f x.end_).map (x :: ·)
theorem ordF_some {L : List Pc} {f : Nat} {e : Int} {x : Pc} (h : L.find? (fun x => x.at_ == e) = some x) : ordF L (f + 1) e = if x.last = true then some [x] else (ordF L f x.end_).map (x :: ·) := by
  rw [ordF, h]
theorem ordF_none {L : List Pc} {f : Nat} {e : Int} (h : L.find? (fun x => x.at_ == e) = none) : ordF L (f + 1) e = none := by
  rw [ordF, h]
/-- all pieces, in order; none, if one is missing -/
def ord (L : List Pc) : List Pc := (ordF L 1025 0).getD []
def Shp (x : Pc) : Prop := ∃ a n c, x.dv = .slice a n c
theorem Shp.one {x : Pc} (h : Shp x) : ∀ u ∈ x.cells, u.oneCell' = true := by
  obtain ⟨a, n, c, e⟩ := h
  intro u hu
  simp only [Pc.cells, List.mem_cons, List.not_mem_nil, or_false] at hu
  rcases hu with rfl | rfl | rfl | rfl
  · rfl
  · rw [e]; rfl
  · rfl
  · rfl
theorem rowPc_push {O : Nat → Prop} {W : World} {v : Value} {A : List Pc} {x : Pc} (h : RowF 4 O W v A.length (pcc A)) (hA : ∀ y ∈ A, Shp y) (hx : Shp x) (s : Nat) (hc : CellsAt W s 0 x.cells) (hl : A.length < 100000) :
    ∃ a' c' w2, (Builtin.append_ #[69, 69] 69 #[v, .slice (some ⟨s, 0, none⟩) 1 1]).run Try.prog W = .ok (.slice a' (A.length + 1) c') w2 ∧ RowF 4 (fun g => O g ∨ g = W.heap.size) w2 (.slice a' (A.length + 1) c') (A ++ [x]).length (pcc (A ++ [x])) ∧ But O W w2 := by
  obtain ⟨i0, hi0, hz0, hz1, hz2⟩ := info_parts info_pc
  obtain ⟨a', c', w2, hr, rr, hb⟩ := h.push 69 80 i0 _ Try.underlying69 hi0 hz0 hz1 (by omega) rfl (fun j hj => pcc_len A j) (fun q hq => by
    obtain ⟨y, hy⟩ : ∃ y, A[q]? = some y := ⟨_, List.getElem?_eq_getElem hq⟩
    rw [pcc_at hy]; exact (hA y (List.mem_of_getElem? hy)).one) x.cells rfl hx.one s hc (by omega)
  refine ⟨a', c', w2, hr, ?_, hb⟩
  rw [List.length_append]
  exact RowF.cong (c := fun q => if q < A.length then pcc A q else x.cells) rr (fun j hj => by rw [pcc_app A x j hj])
/-- the variables of inOrder: the result at s, what was found at s + 1, how far it reaches at s + 2 -/
structure OrS (w1 : World) (s : Nat) (A : List Pc) (e : Int) (v r : Value) (W : World) : Prop where
  b : But (fun g => g = s ∨ g = s + 1 ∨ g = s + 2) w1 W
  c0 : W.cell? ⟨s, 0, none⟩ = some r
  f0 : W.frozen? ⟨s, 0, none⟩ = false
  c1 : W.cell? ⟨s + 1, 0, none⟩ = some v
  f1 : W.frozen? ⟨s + 1, 0, none⟩ = false
  c2 : W.cell? ⟨s + 2, 0, none⟩ = some (.int .i64 e)
  f2 : W.frozen? ⟨s + 2, 0, none⟩ = false
  row : RowF 4 (fun g => w1.heap.size ≤ g ∧ Cel W g) W v A.length (pcc A)
theorem OrS.keep {w1 : World} {s : Nat} {A : List Pc} {e : Int} {v r : Value} {W W' : World} {K : Nat → Prop} (h : OrS w1 s A e v r W) (hs : s + 3 ≤ w1.heap.size) (hb : But K W W') (hk : ∀ g, K g → w1.heap.size ≤ g ∧ ¬ Cel W g) : OrS w1 s A e v r W' := by
  have z0 : s < W.heap.size := World.block_lt_of_cell? W _ h.c0
  have z1 : s + 1 < W.heap.size := World.block_lt_of_cell? W _ h.c1
  have z2 : s + 2 < W.heap.size := World.block_lt_of_cell? W _ h.c2
  have k0 : ¬ K s := fun e => by have := (hk _ e).1; omega
  have k1 : ¬ K (s + 1) := fun e => by have := (hk _ e).1; omega
  have k2 : ¬ K (s + 2) := fun e => by have := (hk _ e).1; omega
  exact ⟨h.b.trans' hb (fun g hg e => by have := (hk g e).1; omega), (hb.cell (p := ⟨s, 0, none⟩) z0 k0).trans h.c0, (hb.frozen (p := ⟨s, 0, none⟩) z0 k0).trans h.f0, (hb.cell (p := ⟨s + 1, 0, none⟩) z1 k1).trans h.c1, (hb.frozen (p := ⟨s + 1, 0, none⟩) z1 k1).trans h.f1, (hb.cell (p := ⟨s + 2, 0, none⟩) z2 k2).trans h.c2, (hb.frozen (p := ⟨s + 2, 0, none⟩) z2 k2).trans h.f2, (h.row.but hb (fun g e e2 => (hk g e2).2 e.2)).own (fun g hg e => ⟨e.1, e.2.but hb (fun e2 => (hk g e2).2 e.2)⟩)⟩
/-- between two rounds of the outer loop -/
def OrL (b s : Nat) (w1 : World) (L : List Pc) (a : Act) (W : World) : Prop :=
  ∃ (ds : List Deferred) (x6 x7 : Value) (f : Nat) (e : Int) (A : List Pc) (v : Value), a = { tmps := #[.pointer (some ⟨b, 0, none⟩), undef, .pointer (some ⟨s, 0, none⟩), .pointer (some ⟨s + 1, 0, none⟩), .pointer (some ⟨s + 2, 0, none⟩), undef, x6, x7, undef, undef, undef, undef, undef, undef, undef, undef, undef, undef, undef, undef, undef, undef], defers := ds } ∧ Marks w1.heap.size W ds ∧ OrS w1 s A e v (.slice none 0 0) W ∧ 0 ≤ e ∧ e ≤ 1024 ∧ (A.length : Int) ≤ e ∧ 1025 ≤ f + e ∧ (∀ x ∈ A, x ∈ L) ∧ ordF L 1025 0 = (ordF L f e).map (A ++ ·)
def mu2 (s : Nat) (_ : Act) (W : World) : Nat := match W.cell? ⟨s + 2, 0, none⟩ with | some (.int _ e) => (1025 - e).toNat | _ => 0
theorem exec_neI {o : Oper} {w : World} {ev : Operand → Value} (x y : Operand) (t : TypeId) (i j : Int) (q : Bool) (ho : o.op = .binOp .neq 3 x y t) (hx : ev x = .int .i64 i) (hy : ev y = .int .i64 j) (hq : (i != j) = q) : (execOp ev o).run Try.prog w = .ok (.value (.bool q)) w := by
  subst hq
  unfold execOp
  simp [ho, hx, hy, go_sem]
/-- what may have turned since a world -/
def Tch (w1 W1 : World) (s g : Nat) : Prop := g = s ∨ g = s + 1 ∨ g = s + 2 ∨ (w1.heap.size ≤ g ∧ Cel W1 g)
/-- one piece was found: all of that is told -/
def OrX (w1 W1 : World) (s : Nat) (L A : List Pc) (e : Int) (c : Code) (W : World) : Prop :=
  But (Tch w1 W1 s) W1 W ∧ ∃ (k : Nat) (x : Pc) (v : Value), L[k]? = some x ∧ x.at_ = e ∧ (∀ (j : Nat) (y : Pc), j < k → L[j]? = some y → y.at_ ≠ e) ∧ ((c = .ret ∧ x.last = true ∧ OrS w1 s (A ++ [x]) e v v W) ∨ (c = .exit 1 ∧ x.last = false ∧ OrS w1 s (A ++ [x]) x.end_ v (.slice none 0 0) W))
theorem OrX.keep {w1 W1 W W' : World} {s : Nat} {L A : List Pc} {e : Int} {c : Code} {K : Nat → Prop} (h : OrX w1 W1 s L A e c W) (hs : s + 3 ≤ w1.heap.size) (hw : w1.heap.size ≤ W1.heap.size) (hb : But K W W') (hk : ∀ g, K g → W1.heap.size ≤ g ∧ ¬ Cel W g) : OrX w1 W1 s L A e c W' := by
  obtain ⟨h1, k, x, v, h2, h3, h4, h5⟩ := h
  refine ⟨h1.trans' hb (fun g hg e => by have := (hk g e).1; omega), k, x, v, h2, h3, h4, ?_⟩
  have hk' : ∀ g, K g → w1.heap.size ≤ g ∧ ¬ Cel W g := fun g e => ⟨by have := (hk g e).1; omega, (hk g e).2⟩
  rcases h5 with ⟨d1, d2, d3⟩ | ⟨d1, d2, d3⟩
  · exact .inl ⟨d1, d2, d3.keep hs hb hk'⟩
  · exact .inr ⟨d1, d2, d3.keep hs hb hk'⟩
theorem marks_next {w1 W W1 W' : World} {s : Nat} {ds : List Deferred} {D : Nat} (hm : Marks w1.heap.size W ds) (hb : Below W.heap.size W W1) (ht : But (Tch w1 W1 s) W1 W') (hs : s + 3 ≤ w1.heap.size) (hw : w1.heap.size ≤ W.heap.size) (hD : W1.heap.size ≤ D) (hDW : W'.heap[D]? = some (.deferred (some []))) : Marks w1.heap.size W' ({ target := .collected D, args := #[] } :: ds) := by
  have zb := hb.size
  refine .cons (by omega) hDW (fun d hd e => ?_) (hm.all (fun E hE he _ => ?_))
  · have := hm.lt d hd D e
    omega
  · have hl := (Array.getElem?_eq_some_iff.1 he).1
    have h1 : W1.heap[E]? = some (.deferred (some [])) := (hb.block E hl).trans he
    refine (ht.block E (by omega) (fun e => ?_)).trans h1
    rcases e with e | e | e | e
    · omega
    · omega
    · omega
    · exact e.2.ne h1 rfl rfl
theorem find_at {L : List Pc} {k : Nat} {x : Pc} {e : Int} (h1 : L[k]? = some x) (h2 : x.at_ = e) (h3 : ∀ j y, j < k → L[j]? = some y → y.at_ ≠ e) : L.find? (fun x => x.at_ == e) = some x := by
  obtain ⟨hl, rfl⟩ := List.getElem?_eq_some_iff.1 h1
  rw [List.find?_eq_some_iff_getElem]
  refine ⟨by simp [h2], k, hl, rfl, fun j hj => ?_⟩
  have := h3 j _ hj (List.getElem?_eq_getElem (Nat.lt_trans hj hl))
  simp [this]
theorem find_none {L : List Pc} {e : Int} (h3 : ∀ j y, j < L.length → L[j]? = some y → y.at_ ≠ e) : L.find? (fun x => x.at_ == e) = none := by
  refine List.find?_eq_none.2 (fun p hp => ?_)
  obtain ⟨j, hj⟩ := List.getElem?_of_mem hp
  have := h3 j p (List.getElem?_eq_some_iff.1 hj).1 hj
  simp [this]
set_option maxRecDepth 100000 in
set_option maxHeartbeats 4000000 in
theorem inOrder_in (n : Nat) (hn : 3 ≤ n) {w : World} {b : Nat} {RO CO : Nat → Prop} {m : Gm} (h : GmAt w b RO CO m) (hne : ∀ x ∈ m.L, x.last = false → 0 < x.D.length) :
    CallsIn Fence.wide n Try.prog 39 #[.pointer (some ⟨b, 0, none⟩)] w fun e w' => ∃ v, e = .returned v ∧ RowF 4 (fun g => w.heap.size ≤ g) w' v (ord m.L).length (pcc (ord m.L)) ∧ Below w.heap.size w w' := by
  have h1 : 1 ≤ n := by omega
  have hblt := h.lt
  obtain ⟨a0, c0, g, cL, hga, hcs, hdv⟩ := h.it
  have hlen := h.len
  have hlo : ∀ x ∈ m.L, 0 ≤ x.at_ ∧ x.at_ + x.D.length ≤ 1024 := fun x hx => ⟨(h.con x hx).lo, (h.con x hx).hi⟩
  have hsh : ∀ x ∈ m.L, ∃ a c, x.dv = .slice a x.D.length c := fun x hx => (h.con x hx).d.shape
  have hcon : ∀ x ∈ m.L, ∀ W, Below w.heap.size w W → x.Ok CO W := fun x hx W hW => (h.con x hx).later hW
  obtain ⟨L, hL⟩ : ∃ L, L = m.L := ⟨_, rfl⟩
  rw [← hL] at cL hga hcs hdv hlen hlo hsh hne hcon ⊢
  clear hL h
  refine callsIn_of_wp_marks Try.func39 rfl trivial ?_ rfl
  simp only [Try.ntmps39, List.size_toArray, List.length_cons, List.length_nil, Nat.reduceAdd, Nat.reduceSub, Array.replicate_succ, Array.replicate_zero, List.push_toArray, List.append_toArray, List.nil_append, List.cons_append]
  obtain ⟨s, hs⟩ : ∃ s, s = w.heap.size := ⟨_, rfl⟩
  obtain ⟨w1, hw1⟩ : ∃ w1, w1 = boxes [(.slice none 0 0, 69), (.slice none 0 0, 69), (.int .i64 0, 3)] w := ⟨_, rfl⟩
  have hbx := boxes_at [(.slice none 0 0, 69), (.slice none 0 0, 69), (.int .i64 0, 3)] w
  obtain ⟨hb1, hz0⟩ := boxes_below [(.slice none 0 0, 69), (.slice none 0 0, 69), (.int .i64 0, 3)] w
  rw [← hw1, ← hs] at hbx
  rw [← hw1] at hb1 hz0
  have hz1 : w1.heap.size = s + 3 := by rw [hz0, hs]; rfl
  have k0 := hbx 0 _ _ rfl
  have k1 := hbx 1 _ _ rfl
  have k2 := hbx 2 _ _ rfl
  have O0 : OrS w1 s [] 0 (.slice none 0 0) (.slice none 0 0) w1 := ⟨But.refl _ _, k0.1, k0.2, k1.1, k1.2, k2.1, k2.2, RowF.nil _ _ _ _⟩
  have x2 : w1.cell? ⟨s + 2, 0, none⟩ = some (.int .i64 0) := k2.1
  have f2 : w1.frozen? ⟨s + 2, 0, none⟩ = false := k2.2
  have e2 : w1.setCell ⟨s + 2, 0, none⟩ (.int .i64 0) = w1 := by
    rw [hw1, hs]
    simp only [boxes]
    rw [show w.heap.size + 2 = ((w.alloc (.cells #[.slice none 0 0] 69)).alloc (.cells #[.slice none 0 0] 69)).heap.size by simp, setCell_alloc]
    rfl
  have hw1' := hw1.symm
  simp only [boxes] at hw1'
  have hs' := hs.symm
  have HO0 := hide O0
  have HB1 := hide hb1
  have HS := hide hs
  have HZ1 := hide hz1
  have HBL := hide hblt
  have HGA := hide hga
  have HCS := hide hcs
  have HDV := hide hdv
  have HSH := hide hsh
  have HLO := hide hlo
  have HNE := hide hne
  have HLEN := hide hlen
  have HCL := hide cL
  have HCON := hide hcon
  clear hw1 hs hbx hz0 k0 k1 k2 O0 hb1 hz1 hblt hga hcs hdv hsh hlo hne hlen cL hcon
  gi_wp2
  refine wpIn_scope_straight ?_
  gi_wp2
  clear hw1' hs' e2 x2 f2
  refine wpIn_label ?_
  gi_wp2
  refine wpIn_loop (OrL b s w1 L) (mu2 s) ?_ ?_
  · exact ⟨[], _, _, 1025, 0, [], _, rfl, .nil, HO0.out, by omega, by omega, by simp, by simp, by simp, by cases ordF L 1025 0 <;> simp⟩
  · rintro a W ⟨ds, x6, x7, f, e, A, v, rfl, hm, hO, e0, e1, hAl, hf, hAL, hord⟩
    have hbw : Below w.heap.size w W := HB1.out.trans (hO.b.below HB1.out.size (fun g hg e => by have := HS.out; omega))
    have HM := hide hm
    have HO := hide hO
    have HORD := hide hord
    have HAL := hide hAL
    have HAl := hide hAl
    have HF := hide hf
    have HBW := hide hbw
    clear HO0 hm hO hord hAL hAl hf hbw
    gi_wp2_with fail
    refine ⟨trivial, ?_⟩
    refine (pieces_in (n - 1) b _).mono ?_
    rintro _ _ ⟨rfl, rfl⟩
    obtain ⟨t, ht⟩ : ∃ t, t = W.heap.size := ⟨_, rfl⟩
    obtain ⟨W1, hW1⟩ : ∃ W1, W1 = W.alloc (.cells #[.pointer (some ⟨b, 0, none⟩)] 65) := ⟨_, rfl⟩
    have bW1 : Below W.heap.size W W1 := by rw [hW1]; exact later_alloc _ _
    have cT : W1.cell? ⟨t, 0, none⟩ = some (.pointer (some ⟨b, 0, none⟩)) := by rw [hW1, ht]; exact CellsAt.new W [_] _ 0 _ rfl
    have zW1 : W1.heap.size = t + 1 := by rw [hW1, ht, World.size_alloc]
    have hW := HBW.out.size
    have hB := HBL.out
    have hZ := HZ1.out
    have hSs := HS.out
    have zw : w1.heap.size ≤ W.heap.size := HO.out.b.size
    have BW := hide (later HBW.out bW1)
    have CL1 := hide ((BW.out.cell (p := ⟨b, 27, none⟩) hB).trans HCL.out)
    have O1 : Hid (OrS w1 s A e v (.slice none 0 0) W1) := HO.out.keep (by omega) ((But.refl (fun _ => False) W).trans (But.of_below bW1)) (fun _ e => e.elim)
    have HBW1 := hide bW1
    have HT := hide ht
    have HZW1 := hide zW1
    have CT := hide cT
    have sl : Hid (s + 3 ≤ w1.heap.size) := by unfold Hid; omega
    have wl : Hid (w1.heap.size ≤ W1.heap.size) := by unfold Hid; have := bW1.size; omega
    rw [← hW1, ← ht]
    clear hW1 ht bW1 cT zW1 hW hB hZ hSs zw
    gi_wp2
    refine wpIn_range h1 (gf := 51) (lb := #[.pointer (some ⟨t, 0, none⟩)]) rfl (enters_of Try.func51 (by kernel_rfl) rfl) (fun k W' => But (fun _ => False) W1 W' ∧ ∀ (j : Nat) (y : Pc), j < k → L[j]? = some y → y.at_ ≠ e) (OrX w1 W1 s L A e) 0
      (pieces_tells (n - 1) (by omega) t b g L.length c0 a0 (fun hl => (HGA.out hl).1) (by have := HLEN.out; omega) L rfl HDV.out _ (fun j W o hI => ⟨hI.1.alloc o, hI.2⟩) (fun j W' hI => ⟨(hI.1.cell (p := ⟨t, 0, none⟩) (by have := HZW1.out; show t < _; omega) id).trans CT.out, (hI.1.cell (p := ⟨b, 27, none⟩) (by have := HBL.out; have := BW.out.size; show b < _; omega) id).trans CL1.out, fun q x hx => by
            have hg := (HGA.out (by have := (List.getElem?_eq_some_iff.1 hx).1; omega)).2
            have := BW.out.size
            exact ((HCS.out q x hx).later (by omega) BW.out).but (by omega) hI.1 id⟩))
      (fun j args ⟨_, _, e⟩ => by rw [e]; rfl) (fun j W o hI => ⟨hI.1.alloc o, hI.2⟩) (fun j W l o o' hl ho hc hI => ⟨hI.1.put hl o', hI.2⟩) (fun c W o h => h.keep sl.out wl.out ((But.refl (fun _ => False) W).alloc o) (fun _ e => e.elim)) (fun c W l o o' hl ho hc h => h.keep sl.out wl.out (put_but W l o') (fun q e => by subst e; exact ⟨hl, fun hcc => hcc.ne ho hc rfl⟩)) (fun c W h => h.keep sl.out wl.out ((But.refl (fun _ => False) W).drew) (fun _ e => e.elim)) ⟨But.refl _ _, fun j y hj => by omega⟩ ?round ?done ?stop
    case stop =>
      intro D c W' hD hX hDW
      obtain ⟨ht, k, x, v', hk, hxe, hno, hcase⟩ := hX
      have hW := HBW.out.size
      have hZ := HZ1.out
      have hSs := HS.out
      have MK := hide (marks_next HM.out HBW1.out ht sl.out HO.out.b.size hD hDW)
      have hxL := List.mem_of_getElem? hk
      have FA := hide (find_at hk hxe hno)
      have HX := hide (HLO.out x hxL)
      have bw' : Hid (Below w.heap.size w W') := BW.out.trans (ht.below (by have := BW.out.size; omega) (fun g hg e => by
        rcases e with e | e | e | e
        · omega
        · omega
        · omega
        · have := e.1; omega))
      obtain ⟨f', hf'⟩ : ∃ f', f = f' + 1 := ⟨f - 1, by have := HF.out; omega⟩
      rcases hcase with ⟨rfl, hl, hS⟩ | ⟨rfl, hl, hS⟩
      · have EO : Hid (ord L = A ++ [x]) := by
          show ord L = _
          unfold ord
          rw [HORD.out, hf']
          rw [ordF_some FA.out]
          simp [hl]
        have HSS := hide hS
        clear hS hl hk hxe hno ht hDW hf' hW hZ hSs hxL
        gi_wp2
        refine leaves_marks _ _ MK.out (fun W'' hW'' => ?_)
        have O2 := HSS.out.keep sl.out hW'' (fun g e => e)
        have hc := O2.c0
        refine ⟨v', ?_, v', rfl, ?_, ?_⟩
        · simp [results, asAddr, go_sem, hc]
        · rw [EO.out]
          exact O2.row.own (fun g _ e => by have := e.1; have := HZ1.out; have := HS.out; omega)
        · exact bw'.out.trans (hW''.below (by have := bw'.out.size; omega) (fun g hg e => by have := e.1; have := HZ1.out; have := HS.out; omega))
      · have hp := HNE.out x hxL hl
        have hlx := HX.out
        have EO : Hid (ordF L 1025 0 = (ordF L f' x.end_).map ((A ++ [x]) ++ ·)) := by
          show ordF L 1025 0 = _
          rw [HORD.out, hf']
          rw [ordF_some FA.out, hl]
          cases ordF L f' x.end_ <;> simp
        have EN : Hid (x.end_ = e + x.D.length) := by unfold Pc.end_; rw [hxe]; rfl
        have EM : Hid (mu2 s { tmps := #[], defers := [] } W = (1025 - e).toNat) := by unfold mu2; rw [HO.out.c2]; rfl
        have HSS := hide hS
        have HXL := hide hxL
        clear hS hl hk hno ht hDW hW hZ hSs hxL
        gi_wp2
        have en := EN.out
        have al := HAl.out
        have hff := HF.out
        refine ⟨⟨_, _, _, f', x.end_, A ++ [x], v', rfl, MK.out, HSS.out, by omega, by omega, by simp; omega, by omega, fun y hy => ?_, EO.out⟩, ?_⟩
        · rcases List.mem_append.1 hy with hy | hy
          · exact HAL.out y hy
          · rw [List.mem_singleton.1 hy]; exact HXL.out
        · have := EM.out
          show mu2 s { tmps := #[], defers := [] } W' < mu2 s { tmps := #[], defers := [] } W
          rw [this]
          unfold mu2
          rw [HSS.out.c2]
          show (1025 - x.end_).toNat < _
          omega
    case done =>
      intro D j W' hD hj hI hDW
      subst hj
      have hW := HBW.out.size
      have hZ := HZ1.out
      have hSs := HS.out
      have ht : But (Tch w1 W1 s) W1 W' := hI.1.mono (fun _ e => e.elim)
      have O2 := O1.out.keep sl.out hI.1 (fun _ e => e.elim)
      obtain ⟨f', hf'⟩ : ∃ f', f = f' + 1 := ⟨f - 1, by have := HF.out; omega⟩
      have EO : Hid (ord L = []) := by
        show ord L = _
        unfold ord
        rw [HORD.out, hf']
        rw [ordF_none (find_none hI.2)]
        rfl
      have MK := hide (marks_next HM.out HBW1.out ht sl.out HO.out.b.size hD hDW)
      have x0 := O2.c0
      have g0 := O2.f0
      have bw' : Hid (Below w.heap.size w W') := BW.out.trans (hI.1.below (by have := BW.out.size; omega) (fun _ _ e => e))
      have HO2 := hide O2
      clear O2 ht hI hDW hf' hW hZ hSs
      gi_wp2
      have bs : But (Only s) W' (W'.setCell ⟨s, 0, none⟩ (.slice none 0 0)) := (But.refl (Only s) _).cellb (b := s) rfl 0 _
      refine leaves_marks _ _ (MK.out.all (fun E hE he _ => (bs.block E (Array.getElem?_eq_some_iff.1 he).1 (fun e => by have e : E = s := e; have := HZ1.out; omega)).trans he)) (fun W'' hW'' => ?_)
      have hc : W''.cell? ⟨s, 0, none⟩ = some (.slice none 0 0) := (hW''.cell (p := ⟨s, 0, none⟩) (World.block_lt_of_cell? _ ⟨s, 0, none⟩ (World.cell?_setCell_same _ _ _ x0)) (fun e => by have e := e.1; have := HZ1.out; have e : w1.heap.size ≤ s := e; omega)).trans (World.cell?_setCell_same _ _ _ x0)
      refine ⟨.slice none 0 0, ?_, _, rfl, ?_, ?_⟩
      · simp [results, asAddr, go_sem, hc]
      · rw [EO.out]; exact RowF.nil _ _ _ _
      · have z1 := bw'.out.size
        have z2 := bs.size
        have z3 := HS.out
        have z4 := HZ1.out
        exact (bw'.out.trans (bs.below (by omega) (fun g hg e => by have e : g = s := e; omega))).trans (hW''.below (by omega) (fun g hg e => by have := e.1; omega))
    case round =>
      rintro l j args W' hlS hI ⟨x, hx, rfl⟩
      have hxL := List.mem_of_getElem? hx
      obtain ⟨da, dc, edv⟩ := HSH.out x hxL
      obtain ⟨dn, hdn⟩ : ∃ dn, dn = x.D.length := ⟨_, rfl⟩
      rw [← hdn] at edv
      have ex : (Value.agg x.cells.toArray) = .agg #[.int .i64 x.at_, .slice da dn dc, .bool x.last, .int .i64 x.buf] := by rw [← edv]; rfl
      obtain ⟨Y, hY⟩ : ∃ Y, Y = x.cells := ⟨_, rfl⟩
      have eY : Y = [.int .i64 x.at_, .slice da dn dc, .bool x.last, .int .i64 x.buf] := by rw [hY, ← edv]; rfl
      have LY : Hid (Y.length = 4) := by rw [hY]; exact rfl
      rw [ex]
      have HI := hide hI
      have HDN := hide hdn
      clear hI ex hdn
      gi_wp2
      refine ⟨KeepsFrom.of_but ((But.refl (fun _ => False) W').alloc _) (fun _ e => e.elim), ?_⟩
      intro o o' hoo hc
      obtain ⟨p, hp⟩ : ∃ p, p = W'.heap.size := ⟨_, rfl⟩
      rw [← hp]
      have cA : CellsAt (W'.alloc (.cells #[.int .i64 x.at_, .slice da dn dc, .bool x.last, .int .i64 x.buf] 80)) p 0 Y := by rw [hp, eY]; exact CellsAt.new W' _ _
      have bA : But (fun _ => False) W1 (W'.alloc (.cells #[.int .i64 x.at_, .slice da dn dc, .bool x.last, .int .i64 x.buf] 80)) := HI.out.1.alloc _
      generalize W'.alloc (.cells #[.int .i64 x.at_, .slice da dn dc, .bool x.last, .int .i64 x.buf] 80) = WA at *
      have pl : p ≠ l := (show Cel WA p from cells_of_cell (cA 0 (.int .i64 x.at_) (by rw [eY]; rfl))).ne hoo hc
      have lA : p < WA.heap.size := cA.lt (by rw [LY.out]; decide)
      have hb : But (fun _ => False) W1 (WA.putObj l o') := bA.put hlS o'
      have c2 : CellsAt (WA.putObj l o') p 0 Y := cA.but lA (put_but WA l o') pl
      have HNO := hide HI.out.2
      have pz : W1.heap.size ≤ p := by rw [hp]; exact HI.out.1.size
      clear hoo hc HI cA lA bA pl hp
      generalize WA.putObj l o' = W2 at *
      have O2 := O1.out.keep sl.out hb (fun _ e => e.elim)
      have x0 : W2.cell? ⟨p, 0, none⟩ = some (.int .i64 x.at_) := c2 0 _ (by rw [eY]; rfl)
      have x2 : W2.cell? ⟨p, 2, none⟩ = some (.bool x.last) := c2 2 _ (by rw [eY]; rfl)
      have y2 := O2.c2
      obtain ⟨q, hq⟩ : ∃ q, q = (x.at_ != e) := ⟨_, rfl⟩
      refine wpIn_block ?_
      refine wpIn_seq ?_
      refine wpIn_seq ?_
      refine wpIn_region_lit ?_
      refine listV (w' := W2) 9 (.pointer (some ⟨p, 0, none⟩)) rfl rfl rfl (exec_fieldO 80 _ 0 p 0 0 rfl rfl (fun w => by kernel_rfl)) ?_
      try simp only [Act.put, List.setIfInBounds_toArray, List.set_cons_zero, List.set_cons_succ]
      refine listV (w' := W2) 10 (.int .i64 x.at_) rfl rfl rfl (exec_load1 3 one1 _ rfl p 0 rfl (.int .i64 x.at_) (x0)) ?_
      try simp only [Act.put, List.setIfInBounds_toArray, List.set_cons_zero, List.set_cons_succ]
      refine listV (w' := W2) 11 (.int .i64 e) rfl rfl rfl (exec_load1 3 one1 _ rfl (s + 2) 0 rfl (.int .i64 e) (y2)) ?_
      try simp only [Act.put, List.setIfInBounds_toArray, List.set_cons_zero, List.set_cons_succ]
      refine listV (w' := W2) 12 (.bool q) rfl rfl rfl (exec_neI _ _ _ _ _ q rfl rfl rfl hq.symm) ?_
      try simp only [Act.put, List.setIfInBounds_toArray, List.set_cons_zero, List.set_cons_succ]
      cases q with
      | true =>
        refine wpIn_cond_true rfl ?_
        gi_wp2
        refine ⟨KeepsFrom.of_but (But.refl (fun _ => False) W2) (fun _ e => e.elim), j + 1, rfl, hb, fun k y hk hy => ?_⟩
        by_cases e : k = j
        · subst e
          rw [hx] at hy
          cases hy
          simpa using hq.symm
        · exact HNO.out k y (by omega) hy
      | false =>
        refine wpIn_cond_false rfl ?_
        refine wpIn_skip ?_
        have hxe : x.at_ = e := by simpa using hq.symm
        obtain ⟨va, vc, rfl⟩ := O2.row.shape
        have y1 := O2.c1
        have r2 := ((O1.out.row.own (O' := fun g => w1.heap.size ≤ g ∧ Cel W1 g ∧ g < W1.heap.size) (fun g hg e => ⟨e.1, e.2, hg⟩)).but hb (fun _ _ => id))
        have bE : Below W2.heap.size W2 (W2.alloc (.cells #[.int .i64 x.at_, .slice da dn dc, .bool x.last, .int .i64 x.buf] 80)) := later_alloc _ _
        have cE : CellsAt (W2.alloc (.cells #[.int .i64 x.at_, .slice da dn dc, .bool x.last, .int .i64 x.buf] 80)) W2.heap.size 0 x.cells := by rw [← hY, eY]; exact CellsAt.new W2 _ _
        obtain ⟨wE, hwE⟩ : ∃ wE, wE = W2.alloc (.cells #[.int .i64 x.at_, .slice da dn dc, .bool x.last, .int .i64 x.buf] 80) := ⟨_, rfl⟩
        rw [← hwE] at bE cE
        have aL : A.length < 100000 := by have := HAl.out; omega
        obtain ⟨a', c', wF, hrun, rF, hbF⟩ := rowPc_push (r2.later bE) (fun y hy => HDV.out y (HAL.out y hy)) (x := x) (HDV.out x hxL) W2.heap.size cE aL
        have sl' := sl.out
        have wl' := wl.out
        have zb := hb.size
        have zE := bE.size
        have zF := hbF.size
        have bEF : But (fun g => w1.heap.size ≤ g ∧ Cel W1 g ∧ g < W1.heap.size) W2 wF := (But.of_below bE).trans hbF
        have l2 : s + 2 < W2.heap.size := by omega
        have n1 : ∀ k, k < 3 → ¬ (w1.heap.size ≤ s + k ∧ Cel W1 (s + k) ∧ s + k < W1.heap.size) := fun k hk e => by have := e.1; omega
        have np : ¬ (w1.heap.size ≤ p ∧ Cel W1 p ∧ p < W1.heap.size) := fun e => by have := e.2.2; omega
        have lp : p < W2.heap.size := World.block_lt_of_cell? W2 _ x0
        have k1F : wF.cell? ⟨s + 1, 0, none⟩ = some (.slice va A.length vc) := (bEF.cell (p := ⟨s + 1, 0, none⟩) (by show s + 1 < _; omega) (n1 1 (by omega))).trans y1
        have g1F : wF.frozen? ⟨s + 1, 0, none⟩ = false := (bEF.frozen (p := ⟨s + 1, 0, none⟩) (by show s + 1 < _; omega) (n1 1 (by omega))).trans O2.f1
        obtain ⟨wG, hwG⟩ : ∃ z, z = wF.setCell ⟨s + 1, 0, none⟩ (.slice a' (A.length + 1) c') := ⟨_, rfl⟩
        have nG : But (Only (s + 1)) wF wG := by rw [hwG]; exact (But.refl (Only (s + 1)) wF).cellb (b := s + 1) rfl 0 _
        have zG := nG.size
        have cG : CellsAt wG p 0 Y := (c2.but lp bEF np).but (by omega) nG (fun e => by have e : p = s + 1 := e; omega)
        have OG : OrS w1 s (A ++ [x]) e (.slice a' (A.length + 1) c') (.slice none 0 0) wG := by
          refine ⟨((O2.b.trans' bEF (fun g hg e => by have := e.1; omega)).trans' nG (fun g hg e => by have e : g = s + 1 := e; omega)), ?_, ?_, ?_, ?_, ?_, ?_, ?_⟩
          · exact (nG.cell (p := ⟨s, 0, none⟩) (by show s < _; omega) (fun e => by have e : s = s + 1 := e; omega)).trans ((bEF.cell (p := ⟨s, 0, none⟩) (by show s < _; omega) (n1 0 (by omega))).trans O2.c0)
          · exact (nG.frozen (p := ⟨s, 0, none⟩) (by show s < _; omega) (fun e => by have e : s = s + 1 := e; omega)).trans ((bEF.frozen (p := ⟨s, 0, none⟩) (by show s < _; omega) (n1 0 (by omega))).trans O2.f0)
          · rw [hwG]; exact World.cell?_setCell_same _ _ _ k1F
          · rw [hwG, World.frozen?_setCell]; exact g1F
          · exact (nG.cell (p := ⟨s + 2, 0, none⟩) (by show s + 2 < _; omega) (fun e => by have e : s + 2 = s + 1 := e; omega)).trans ((bEF.cell (p := ⟨s + 2, 0, none⟩) (by show s + 2 < _; omega) (n1 2 (by omega))).trans O2.c2)
          · exact (nG.frozen (p := ⟨s + 2, 0, none⟩) (by show s + 2 < _; omega) (fun e => by have e : s + 2 = s + 1 := e; omega)).trans ((bEF.frozen (p := ⟨s + 2, 0, none⟩) (by show s + 2 < _; omega) (n1 2 (by omega))).trans O2.f2)
          · exact (((rF.own (O' := fun g => w1.heap.size ≤ g) (fun g hg e => by
              rcases e with e | e
              · exact e.1
              · omega)).but nG (fun g e e2 => by have e2 : g = s + 1 := e2; omega)).cel (by simp) (by omega))
        have TG : But (Tch w1 W1 s) W1 wG := ((hb.mono (fun _ e => e.elim)).trans' bEF (fun g hg e => .inr (.inr (.inr ⟨e.1, e.2.1⟩)))).trans' nG (fun g hg e => by have e : g = s + 1 := e; exact .inr (.inl e))
        have c1F : Cel wF (s + 1) := cells_of_cell k1F
        have KG : KeepsFrom W1.heap.size W2 wG := keeps_trans (KeepsFrom.of_but bEF (fun g e => by
          have h := e.2.1.but hb id
          exact h)) (KeepsFrom.of_but nG (fun g e => by have e : g = s + 1 := e; rw [e]; exact c1F))
        show Code.wpIn _ _ _ (Code.seq _ _) _ _ _
        refine wpIn_seq ?_
        refine wpIn_region_lit ?_
        refine listV (w' := W2) 13 (.slice va A.length vc) rfl rfl rfl (exec_load1 69 onePcs _ rfl (s + 1) 0 rfl (.slice va A.length vc) (y1)) ?_
        try simp only [Act.put, List.setIfInBounds_toArray, List.set_cons_zero, List.set_cons_succ]
        refine listV (w' := W2) 14 (.agg Y.toArray) rfl rfl rfl (exec_loadA 80 4 aggPc sizPc _ rfl p 0 rfl Y LY.out c2) ?_
        try simp only [Act.put, List.setIfInBounds_toArray, List.set_cons_zero, List.set_cons_succ]
        refine listV (w' := wE) 15 (.slice (some ⟨W2.heap.size, 0, none⟩) 1 1) rfl rfl rfl (by rw [hwE, eY]; exact exec_bsPc _ _ _ _ _ _ _ rfl rfl) ?_
        try simp only [Act.put, List.setIfInBounds_toArray, List.set_cons_zero, List.set_cons_succ]
        refine listV (w' := wF) 16 (.slice a' (A.length + 1) c') rfl rfl rfl (exec_app _ _ 69 69 rfl (.slice va A.length vc) (.slice (some ⟨W2.heap.size, 0, none⟩) 1 1) rfl rfl 69 rfl hrun) ?_
        try simp only [Act.put, List.setIfInBounds_toArray, List.set_cons_zero, List.set_cons_succ]
        refine listS (w' := wG) rfl rfl rfl (by rw [hwG]; exact exec_store1 69 s1Pcs _ _ rfl (s + 1) 0 rfl _ _ rfl k1F g1F rfl) ?_
        have LG := OG
        have v0 := OG.c0
        have v1 := OG.c1
        have v2 := OG.c2
        have h0 := OG.f0
        have h2 := OG.f2
        have d2 : wG.cell? ⟨p, 2, none⟩ = some (.bool x.last) := cG 2 _ (by rw [eY]; rfl)
        have HKG := hide KG
        have HTG := hide TG
        have HOG := hide OG
        have HCG := hide cG
        have HX := hide hx
        have HXE := hide hxe
        obtain ⟨nn, hnn⟩ : ∃ nn, nn = A.length + 1 := ⟨_, rfl⟩
        rw [← hnn] at v1 HOG ⊢
        have BG : Below w.heap.size w wG := BW.out.trans (TG.below (by have := BW.out.size; omega) (fun g hg e => by
          have := HS.out
          rcases e with e | e | e | e
          · omega
          · omega
          · omega
          · have := e.1; omega))
        have EN := end_any x wG (HCON.out x hxL wG BG)
        rw [← hY] at EN
        have hSL := HLO.out x hxL
        refine wpListIn_nil ?_
        show Code.wpIn _ _ _ (Code.seq (Code.seq _ _) _) _ _ _
        refine wpIn_seq ?_
        refine wpIn_seq ?_
        refine wpIn_region_lit ?_
        refine listV (w' := wG) 17 (.pointer (some ⟨p, 2, none⟩)) rfl rfl rfl (exec_fieldO 80 _ 2 p 0 2 rfl rfl (fun w => by kernel_rfl)) ?_
        try simp only [Act.put, List.setIfInBounds_toArray, List.set_cons_zero, List.set_cons_succ]
        refine listV (w' := wG) 18 (.bool x.last) rfl rfl rfl (exec_load1 4 oneB _ rfl p 2 rfl (.bool x.last) (d2)) ?_
        try simp only [Act.put, List.setIfInBounds_toArray, List.set_cons_zero, List.set_cons_succ]
        obtain ⟨lq, hlq⟩ : ∃ lq, lq = x.last := ⟨_, rfl⟩
        rw [← hlq]
        cases lq with
        | true =>
          have FIN : Hid (KeepsFrom W1.heap.size W2 (wG.setCell ⟨s, 0, none⟩ (.slice a' nn c')) ∧ OrX w1 W1 s L A e .ret (wG.setCell ⟨s, 0, none⟩ (.slice a' nn c'))) := by
            have nS : But (Only s) wG (wG.setCell ⟨s, 0, none⟩ (.slice a' nn c')) := (But.refl (Only s) wG).cellb (b := s) rfl 0 _
            refine ⟨keeps_trans KG (KeepsFrom.of_but nS (fun g e => by have e : g = s := e; rw [e]; exact cells_of_cell v0)), TG.trans' nS (fun g hg e => .inl e), j, x, .slice a' nn c', hx, hxe, HNO.out, .inl ⟨rfl, hlq.symm, ?_⟩⟩
            have q := HOG.out
            refine ⟨q.b.trans' nS (fun g hg e => .inl e), World.cell?_setCell_same _ _ _ v0, by rw [World.frozen?_setCell]; exact h0, ?_, ?_, ?_, ?_, ?_⟩
            · exact (nS.cell (p := ⟨s + 1, 0, none⟩) (by show s + 1 < _; omega) (fun e => by have e : s + 1 = s := e; omega)).trans q.c1
            · rw [World.frozen?_setCell]; exact q.f1
            · exact (nS.cell (p := ⟨s + 2, 0, none⟩) (by show s + 2 < _; omega) (fun e => by have e : s + 2 = s := e; omega)).trans q.c2
            · rw [World.frozen?_setCell]; exact q.f2
            · exact (q.row.but nS (fun g e e2 => by have e2 : g = s := e2; have := e.1; omega)).own (fun g _ e => ⟨e.1, e.2.but nS (fun e2 => by have e2 : g = s := e2; have := e.1; omega)⟩)
          refine wpIn_cond_true rfl ?_
          clear HKG HTG HOG HCG LG OG TG KG EN cG c1F nG hwG rF hbF bEF k1F g1F hrun r2 O2 hb c2 BG
          refine wpIn_seq ?_
          refine wpIn_region_lit ?_
          refine listV (w' := wG) 19 (.slice a' nn c') rfl rfl rfl (exec_load1 69 onePcs _ rfl (s + 1) 0 rfl (.slice a' nn c') (v1)) ?_
          try simp only [Act.put, List.setIfInBounds_toArray, List.set_cons_zero, List.set_cons_succ]
          refine listS (w' := wG.setCell ⟨s, 0, none⟩ (.slice a' nn c')) rfl rfl rfl (exec_store1 69 s1Pcs _ _ rfl s 0 rfl _ _ rfl v0 h0 rfl) ?_
          gi_wp2
          exact FIN.out
        | false =>
          refine wpIn_cond_false rfl ?_
          refine wpIn_skip ?_
          show Code.wpIn _ _ _ (Code.seq _ _) _ _ _
          refine wpIn_seq ?_
          refine wpIn_region_lit ?_
          refine listV (w' := wG) 20 (.agg Y.toArray) rfl rfl rfl (exec_loadA 80 4 aggPc sizPc _ rfl p 0 rfl Y LY.out cG) ?_
          try simp only [Act.put, List.setIfInBounds_toArray, List.set_cons_zero, List.set_cons_succ]
          refine listC 21 50 #[.agg Y.toArray] rfl rfl rfl (by kernel_rfl) (fun v' w2 => v' = .int .i64 x.end_ ∧ Below wG.heap.size wG w2) (EN.mono (fun e w2 h => ⟨_, h.1, rfl, h.2⟩)) ?_
          rintro _ wH ⟨rfl, bH⟩
          simp only [Act.put, List.setIfInBounds_toArray, List.set_cons_zero, List.set_cons_succ]
          have zH := bH.size
          have nH : But (fun _ => False) wG wH := But.of_below bH
          have q := HOG.out.keep sl.out nH (fun _ e => e.elim)
          have FIN : Hid (KeepsFrom W1.heap.size W2 (wH.setCell ⟨s + 2, 0, none⟩ (.int .i64 x.end_)) ∧ OrX w1 W1 s L A e (.exit 1) (wH.setCell ⟨s + 2, 0, none⟩ (.int .i64 x.end_))) := by
            have nS : But (Only (s + 2)) wH (wH.setCell ⟨s + 2, 0, none⟩ (.int .i64 x.end_)) := (But.refl (Only (s + 2)) wH).cellb (b := s + 2) rfl 0 _
            refine ⟨keeps_trans KG (keeps_trans (KeepsFrom.of_but nH (fun _ e => e.elim)) (KeepsFrom.of_but nS (fun g e => by have e : g = s + 2 := e; rw [e]; exact cells_of_cell q.c2))), (TG.trans' nH (fun g hg e => e.elim)).trans' nS (fun g hg e => .inr (.inr (.inl e))), j, x, .slice a' nn c', hx, hxe, HNO.out, .inr ⟨rfl, hlq.symm, ?_⟩⟩
            refine ⟨q.b.trans' nS (fun g hg e => .inr (.inr e)), ?_, by rw [World.frozen?_setCell]; exact q.f0, ?_, by rw [World.frozen?_setCell]; exact q.f1, World.cell?_setCell_same _ _ _ q.c2, by rw [World.frozen?_setCell]; exact q.f2, ?_⟩
            · exact (nS.cell (p := ⟨s, 0, none⟩) (by show s < _; omega) (fun e => by have e : s = s + 2 := e; omega)).trans q.c0
            · exact (nS.cell (p := ⟨s + 1, 0, none⟩) (by show s + 1 < _; omega) (fun e => by have e : s + 1 = s + 2 := e; omega)).trans q.c1
            · exact (q.row.but nS (fun g e e2 => by have e2 : g = s + 2 := e2; have := e.1; omega)).own (fun g _ e => ⟨e.1, e.2.but nS (fun e2 => by have e2 : g = s + 2 := e2; have := e.1; omega)⟩)
          refine listS rfl rfl rfl (exec_store1 3 s1 _ _ rfl (s + 2) 0 rfl _ _ rfl q.c2 q.f2 rfl) ?_
          clear HKG HTG HOG HCG LG OG TG KG EN cG c1F nG hwG rF hbF bEF k1F g1F hrun r2 O2 hb c2 BG q nH bH
          gi_wp2
          exact FIN.out
theorem inOrder_any {w : World} {b : Nat} {RO CO : Nat → Prop} {m : Gm} (h : GmAt w b RO CO m) (hne : ∀ x ∈ m.L, x.last = false → 0 < x.D.length) : Calls Try.prog 39 #[.pointer (some ⟨b, 0, none⟩)] w fun e w' => ∃ v, e = .returned v ∧ RowF 4 (fun g => w.heap.size ≤ g) w' v (ord m.L).length (pcc (ord m.L)) ∧ Below w.heap.size w w' :=
  callsIn_wide.1 (inOrder_in 3 (Nat.le_refl _) h hne)
end Go.Proofs.Ytgempelfamjabaa
