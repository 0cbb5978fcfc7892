
/-
  Package frag: what Put hands out; its first worlds; a new datagram. Package frag: Put of what is no piece, and of what may not be.
-/
import Derived.Test.YtgempelfamjabaaF23
namespace Go.Proofs.Ytgempelfamjabaa
open Go.RowKit Go.Shelf

theorem results_W {fn : Func} {p a b : Tmp} {T : TypeId} (h : fn.results = #[.cell p T, .tmp a, .tmp b]) (tmps : Array Value) (w : World) (s : Nat) (v va vb : Value) (hp : tmps.getD p undef = .pointer (some ⟨s, 0, none⟩)) (ha : tmps.getD a undef = va) (hb : tmps.getD b undef = vb) (hL : (loadVar T ⟨s, 0, none⟩).run Try.prog w = .ok v w) : (results fn tmps).run Try.prog w = .ok (.tuple #[v, va, vb]) w := by
  have hp' : (asAddr (tmps.getD p undef)).run Try.prog w = .ok ⟨s, 0, none⟩ w := by rw [hp]; rfl
  have hp2 : (asAddr (tmps[p]?.getD undef)).run Try.prog w = .ok ⟨s, 0, none⟩ w := by simpa using hp'
  have ha' : tmps[a]?.getD undef = va := by simpa using ha
  have hb' : tmps[b]?.getD undef = vb := by simpa using hb
  simp only [results, h]
  simp [Sem.run_bind, Result.andThen, hp2, hL, ha', hb']
theorem exec_zWh {o : Oper} {w : World} {ev : Operand → Value} (ho : o.op = .build 49 #[]) : (execOp ev o).run Try.prog w = .ok (.value (.agg zWh.toArray)) w := by
  unfold execOp
  rw [ho]
  simp only [List.map_toArray, List.map_nil]
  kernel_rfl
theorem exec_bldWh3 {o : Oper} {w : World} {ev : Operand → Value} (x y z : Operand) (p : Pk) (ha : Option Addr) (hn hc : Nat) (da : Option Addr) (dn dc : Nat) (ba : Option Addr) (bn bc : Nat) (ho : o.op = .build 49 #[(0, x), (1, y), (2, z)]) (hx : ev x = .agg (p.cells (.slice ha hn hc)).toArray) (hy : ev y = .slice da dn dc) (hz : ev z = .slice ba bn bc) :
    (execOp ev o).run Try.prog w = .ok (.value (.agg (whC p (.slice ha hn hc) (.slice da dn dc) (.slice ba bn bc)).toArray)) w := by
  unfold execOp
  rw [ho]
  simp only [List.map_toArray, List.map_cons, List.map_nil, hx, hy, hz]
  kernel_rfl
/-- a new datagram's cells -/
def gmZ (kd : Kd) (now : Int) : List Value := (kd.cells ++ (.int .i64 now :: zF.cells (.slice none 0 0))) ++ [.slice none 0 0]
theorem exec_bldGm {o : Oper} {w : World} {ev : Operand → Value} (x y : Operand) (kd : Kd) (now : Int) (ho : o.op = .build 71 #[(0, x), (1, y)]) (hx : ev x = .agg kd.cells.toArray) (hy : ev y = .int .i64 now) :
    (execOp ev o).run Try.prog w = .ok (.value (.agg (gmZ kd now).toArray)) w := by
  unfold execOp
  rw [ho]
  simp only [List.map_toArray, List.map_cons, List.map_nil, hx, hy]
  kernel_rfl
def outP : Option (Pk × List Int × List Int) → Pk
  | none => zF
  | some x => x.1
def outD : Option (Pk × List Int × List Int) → List Int
  | none => []
  | some x => x.2.1
def outB : Option (Pk × List Int × List Int) → List Int
  | none => []
  | some x => x.2.2
/-- what was handed out: each in blocks of its own -/
def PutOut (w w' : World) (ρ' : Nat → Nat × Nat) (o : Option (Pk × List Int × List Int)) (gone : List Int) (v : Value) : Prop :=
  ∃ (hv dv bv gv : Value) (τ : Nat → Nat), v = .tuple #[.agg (whC (outP o) hv dv bv).toArray, .bool o.isSome, gv] ∧ RowB (fun g => τ g = 1 ∧ w.heap.size ≤ g ∧ ρ' g = (0, 9)) w' dv (outD o) ∧ RowN (fun g => τ g = 2 ∧ w.heap.size ≤ g ∧ ρ' g = (0, 9)) w' bv (outB o) ∧ RowN (fun g => τ g = 3 ∧ w.heap.size ≤ g ∧ ρ' g = (0, 9)) w' gv gone ∧ CB (fun g => ρ' g ≠ (0, 9) ∨ w.heap.size ≤ g) w' hv (outP o).opts
theorem PutOut.none_ (w w' : World) (ρ' : Nat → Nat × Nat) {gv : Value} {gone : List Int} (h : RowN (fun g => w.heap.size ≤ g ∧ ρ' g = (0, 9)) w' gv gone) : PutOut w w' ρ' none gone (.tuple #[.agg zWh.toArray, .bool false, gv]) :=
  ⟨.slice none 0 0, .slice none 0 0, .slice none 0 0, gv, fun _ => 3, rfl, RowB.nil _ _, RowN.nil _ _, h.own (fun _ _ e => ⟨rfl, e⟩), Cn.nil _ _ _⟩
/-- Put's first two blocks: the packet's box, what is answered -/
structure PutB (w : World) (s : Nat) (p : Pk) (ov : Value) (w2 : World) : Prop where
  hs : s = w.heap.size
  z : w2.heap.size = s + 2
  b : Below w.heap.size w w2
  c : CellsAt w2 s 0 (p.cells ov)
  c1 : CellsAt w2 (s + 1) 0 zWh
  f : ∀ y, w2.frozen? ⟨s, y, none⟩ = false
  f1 : ∀ y, w2.frozen? ⟨s + 1, y, none⟩ = false
theorem putB_begin (w : World) (p : Pk) (ov : Value) : ∃ w1 w2 s, w.heap.size = s ∧ w1.heap.size = s + 1 ∧ w.alloc (.cells #[.int .u8 p.src.a, .int .u8 p.src.b, .int .u8 p.src.c, .int .u8 p.src.d, .int .u8 p.dst.a, .int .u8 p.dst.b, .int .u8 p.dst.c, .int .u8 p.dst.d, .int .i64 p.proto, .int .i64 p.ttl, .int .i64 p.id, .int .i64 p.tos, .bool p.whole, .bool p.more, .int .i64 p.off, ov] 26) = w1 ∧ w1.alloc (.cells #[.int .u8 0, .int .u8 0, .int .u8 0, .int .u8 0, .int .u8 0, .int .u8 0, .int .u8 0, .int .u8 0, .int .i64 0, .int .i64 0, .int .i64 0, .int .i64 0, .bool false, .bool false, .int .i64 0, .slice none 0 0, .slice none 0 0, .slice none 0 0] 49) = w2 ∧ PutB w s p ov w2 := by
  obtain ⟨w1, s, hs, hw1, c1, f1, b1, l1⟩ := boxP w p ov
  obtain ⟨w2, hw2⟩ : ∃ w2, w2 = w1.alloc (.cells zWh.toArray 49) := ⟨_, rfl⟩
  have z1 : w1.heap.size = s + 1 := by rw [hw1, hs, World.size_alloc]
  have b2 : Below w1.heap.size w1 w2 := by rw [hw2]; exact later_alloc _ _
  have c2 : CellsAt w2 (s + 1) 0 zWh := by rw [hw2, ← z1]; exact CellsAt.new w1 _ _
  have f2 : ∀ y, w2.frozen? ⟨s + 1, y, none⟩ = false := by rw [hw2, ← z1]; exact fun y => frozen_new w1 _ _ _
  have z2 : w2.heap.size = s + 2 := by rw [hw2, World.size_alloc, z1]
  exact ⟨w1, w2, s, hs.symm, z1, hw1.symm, by rw [hw2]; rfl, hs, z2, later b1 b2, c1.later l1 b2, c2, fun y => (b2.frozen (p := ⟨s, y, none⟩) l1).trans (f1 y), f2⟩
theorem PutB.later {w w2 w3 : World} {s : Nat} {p : Pk} {ov : Value} (h : PutB w s p ov w2) (hb : Below w2.heap.size w2 w3) : CellsAt w3 s 0 (p.cells ov) ∧ CellsAt w3 (s + 1) 0 zWh ∧ (∀ y, w3.frozen? ⟨s, y, none⟩ = false) ∧ (∀ y, w3.frozen? ⟨s + 1, y, none⟩ = false) ∧ Below w.heap.size w w3 := by
  have z := h.z
  exact ⟨h.c.later (by omega) hb, h.c1.later (by omega) hb, fun y => (hb.frozen (p := ⟨s, y, none⟩) (by show s < _; omega)).trans (h.f y), fun y => (hb.frozen (p := ⟨s + 1, y, none⟩) (by show s + 1 < _; omega)).trans (h.f1 y), _root_.Go.Proofs.Ytgempelfamjabaa.later h.b hb⟩
set_option maxHeartbeats 1000000 in
/-- a new datagram behind all others: all worlds -/
theorem FrAt.grow {ρ : Nat → Nat × Nat} {W : World} {b : Nat} {G : List (Nat × Gm)} (h : FrAt ρ W b G) (kd : Kd) (now : Int) (hk : ∀ p ∈ G, p.2.kd ≠ kd) (h4 : G.length < 4) :
    ∃ (W1 wE wF wG : World) (k : Nat) (va a' : Option Addr) (vc n c' : Nat), k = W.heap.size ∧ W1 = W.alloc (.cells (gmZ kd now).toArray 71) ∧ n = G.length ∧ W1.cell? ⟨b, 0, none⟩ = some (.slice va n vc) ∧ wE = W1.alloc (.cells #[.pointer (some ⟨k, 0, none⟩)] 65) ∧ (Builtin.append_ #[62, 62] 62 #[.slice va n vc, .slice (some ⟨W1.heap.size, 0, none⟩) 1 1]).run Try.prog wE = .ok (.slice a' (n + 1) c') wF ∧ wF.cell? ⟨b, 0, none⟩ = some (.slice va n vc) ∧ wF.frozen? ⟨b, 0, none⟩ = false ∧ wG = wF.setCell ⟨b, 0, none⟩ (.slice a' (n + 1) c') ∧ But (fun g => g = b ∨ ρ g = (b, 3) ∧ g < W.heap.size) W wG ∧
      ∃ ρ' : Nat → Nat × Nat, FrAt ρ' wG b (G ++ [(k, ⟨kd, now, zF, .slice none 0 0, []⟩)]) ∧ (∀ g, g < W.heap.size → ρ' g = ρ g) := by
  have hl := h.lt
  obtain ⟨k, hk0⟩ : ∃ k, k = W.heap.size := ⟨_, rfl⟩
  obtain ⟨W1, hW1⟩ : ∃ W1, W1 = W.alloc (.cells (gmZ kd now).toArray 71) := ⟨_, rfl⟩
  have b1 : Below W.heap.size W W1 := by rw [hW1]; exact later_alloc _ _
  have c1 : CellsAt W1 k 0 (gmZ kd now) := by rw [hW1, hk0]; exact CellsAt.new W _ _
  have f1 : ∀ y, W1.frozen? ⟨k, y, none⟩ = false := by rw [hW1, hk0]; exact fun y => frozen_new W _ _ _
  have z1 : W1.heap.size = k + 1 := by rw [hW1, hk0, World.size_alloc]
  obtain ⟨v, cv, rv⟩ := h.list
  obtain ⟨va, vc, rfl⟩ := rv.shape
  have cv1 := (b1.cell (p := ⟨b, 0, none⟩) hl).trans cv
  have rv1 := (rv.own (O' := fun g => ρ g = (b, 3) ∧ g < W.heap.size) (fun g hg e => ⟨e, hg⟩)).later b1
  obtain ⟨a', c', wF, hrun, rF, bF⟩ := ptr_push rv1 (k, (⟨kd, now, zF, .slice none 0 0, []⟩ : Gm)) (by omega)
  have nbF : ¬ (ρ b = (b, 3) ∧ b < W.heap.size) := fun e => by rw [h.me] at e; simp at e
  have cvF := (bF.cell (p := ⟨b, 0, none⟩) (by show b < _; omega) nbF).trans cv1
  have fvF : wF.frozen? ⟨b, 0, none⟩ = false := (bF.frozen (p := ⟨b, 0, none⟩) (by show b < _; omega) nbF).trans ((b1.frozen (p := ⟨b, 0, none⟩) hl).trans h.fz)
  obtain ⟨wG, hwG⟩ : ∃ z, z = wF.setCell ⟨b, 0, none⟩ (.slice a' (G.length + 1) c') := ⟨_, rfl⟩
  have bG : But (Only b) wF wG := by rw [hwG]; exact (But.refl (Only b) wF).cellb (b := b) rfl 0 _
  have zzF := bF.size
  have zG := bG.size
  have B1 : But (fun g => g = b ∨ ρ g = (b, 3) ∧ g < W.heap.size) W1 wG := (bF.mono (fun g e => .inr e)).trans (bG.mono (fun g e => .inl e))
  have BB : But (fun g => g = b ∨ ρ g = (b, 3) ∧ g < W.heap.size) W wG := (But.of_below b1).trans B1
  refine ⟨W1, _, wF, wG, k, va, a', vc, _, c', hk0, hW1, rfl, cv1, rfl, hrun, cvF, fvF, hwG, BB, ?_⟩
  obtain ⟨ρ', hρ'⟩ : ∃ ρ' : Nat → Nat × Nat, ρ' = fun g => if g < W.heap.size then ρ g else if g = k then (k, 0) else (b, 3) := ⟨_, rfl⟩
  have e1 : ∀ g, g < W.heap.size → ρ' g = ρ g := fun g hg => by rw [hρ']; exact if_pos hg
  have e2 : ρ' k = (k, 0) := by rw [hρ']; show (if _ then _ else _) = _; rw [if_neg (by omega), if_pos rfl]
  have e3 : ∀ g, k < g → ρ' g = (b, 3) := fun g hg => by rw [hρ']; show (if _ then _ else _) = _; rw [if_neg (by omega), if_neg (by omega)]
  clear hρ'
  have hm := h.me
  have nk : ¬ (k = b ∨ ρ k = (b, 3) ∧ k < W.heap.size) := fun e => by rcases e with e | e <;> omega
  have cK : CellsAt wG k 0 (gmZ kd now) := c1.but (by omega) B1 nk
  refine ⟨ρ', ⟨⟨_, by rw [hwG]; exact World.cell?_setCell_same _ _ _ cvF, ?_⟩, by rw [hwG, World.frozen?_setCell]; exact fvF, by rw [e1 b hl]; exact hm, fun p hp => ?_, ?_, ?_, by simp; omega⟩, e1⟩
  · show RowF 1 (fun g => ρ' g = (b, 3)) wG (.slice a' (G.length + 1) c') (G ++ [(k, (⟨kd, now, zF, .slice none 0 0, []⟩ : Gm))]).length (ptc (G ++ [(k, (⟨kd, now, zF, .slice none 0 0, []⟩ : Gm))]))
    refine ((rF.own (O' := fun g => ρ' g = (b, 3)) (fun g hg e => ?_)).but bG (fun g e e2 => ?_))
    · rcases e with e | e
      · rw [e1 g e.2]; exact e.1
      · exact e3 g (by omega)
    · have e2 : g = b := e2
      subst e2
      rw [e1 g hl, hm] at e
      simp at e
  · rcases List.mem_append.1 hp with hp | hp
    · obtain ⟨p1, p2, p3⟩ := h.gm p hp
      have lp := p3.lt
      refine ⟨by rw [e1 p.1 lp]; exact p1, p2, ?_⟩
      have q := (p3.own (RO' := fun g => ρ g = (p.1, 1) ∧ g < W.heap.size) (CO' := fun g => ρ g = (p.1, 2) ∧ g < W.heap.size) (fun g hg e => ⟨e, hg⟩) (fun g hg e => ⟨e, hg⟩)).but BB (fun g e e0 => by
        rcases e0 with e0 | e0
        · subst e0
          rcases e with e | e | e
          · exact p2 e.symm
          · rw [hm] at e; simp at e
          · rw [hm] at e; simp at e
        · rcases e with e | e | e
          · subst e; rw [p1] at e0; simp at e0
          · rw [e.1] at e0; simp at e0
          · rw [e.1] at e0; simp at e0)
      exact q.own (fun g _ e => by rw [e1 g e.2]; exact e.1) (fun g _ e => by rw [e1 g e.2]; exact e.1)
    · rw [List.mem_singleton.1 hp]
      refine ⟨e2, by show k ≠ b; omega, ?_, ⟨.slice none 0 0, cK 27 _ rfl, RowF.nil _ _ _ _⟩, fun y => (B1.frozen (p := ⟨k, y, none⟩) (by show k < _; omega) nk).trans (f1 y), (fun x hx => by cases hx), Cn.nil _ _ _, by simp⟩
      intro j u hu
      refine cK j u ?_
      unfold gmZ
      rw [List.getElem?_append_left (List.getElem?_eq_some_iff.1 hu).1]
      exact hu
  · rw [List.map_append, List.nodup_append]
    refine ⟨h.nd, by simp, fun a ha c hc => ?_⟩
    obtain ⟨p, hp, rfl⟩ := List.mem_map.1 ha
    have := (h.gm p hp).2.2.lt
    simp only [List.map_cons, List.map_nil, List.mem_singleton] at hc
    omega
  · rw [List.map_append, List.nodup_append]
    refine ⟨h.kn, by simp, fun a ha c hc => ?_⟩
    obtain ⟨p, hp, rfl⟩ := List.mem_map.1 ha
    simp only [List.map_cons, List.map_nil, List.mem_singleton] at hc
    rw [hc]
    exact hk p hp

set_option maxRecDepth 100000 in
set_option maxHeartbeats 8000000 in
/-- no piece: it is the whole -/
theorem put_plain {ρ : Nat → Nat × Nat} {w : World} {b : Nat} {G : List (Nat × Gm)} {P Q : Nat → Prop} (h : FrAt ρ w b G) (p : Pk) (ov : Value) (ho : CB P w ov p.opts) (hol : p.opts.length ≤ 140737488355328) (bv : Value) (D : List Int) (hd : CB Q w bv D) (hdl : D.length ≤ 140737488355328) (buf now : Int) (hf : frg p = false) :
    Calls Try.prog 17 #[.pointer (some ⟨b, 0, none⟩), .agg (p.cells ov).toArray, bv, .int .i64 buf, .int .i64 now] w fun e w' => ∃ v, e = .returned v ∧ FrAt (cutR ρ w.heap.size) w' b G ∧ PutOut w w' (cutR ρ w.heap.size) (some (p, D, [buf])) [] v ∧ Below w.heap.size w w' := by
  rw [show (Value.agg (p.cells ov).toArray) = .agg #[.int .u8 p.src.a, .int .u8 p.src.b, .int .u8 p.src.c, .int .u8 p.src.d, .int .u8 p.dst.a, .int .u8 p.dst.b, .int .u8 p.dst.c, .int .u8 p.dst.d, .int .i64 p.proto, .int .i64 p.ttl, .int .i64 p.id, .int .i64 p.tos, .bool p.whole, .bool p.more, .int .i64 p.off, ov] from rfl]
  obtain ⟨w1, w2, s, hs', hs1', hw1', hw2', PB⟩ := putB_begin w p ov
  obtain ⟨X, hX⟩ : ∃ X, X = p.cells ov := ⟨_, rfl⟩
  have LX : Hid (X.length = 16) := by rw [hX]; exact rfl
  have CX : Hid (CellsAt w2 s 0 X) := by rw [hX]; exact PB.c
  have IF : Hid (Calls Try.prog 30 #[.agg X.toArray] w2 fun e w' => e = .returned (.bool false) ∧ Below w2.heap.size w2 w') := by
    rw [hX]
    exact (isFragment_any p ov w2).mono (fun e w' h => ⟨by rw [h.1, hf], h.2⟩)
  obtain ⟨da, dc, rfl⟩ := hd.shape
  obtain ⟨dn, hdn⟩ : ∃ dn, dn = D.length := ⟨_, rfl⟩
  rw [← hdn] at hd ⊢
  have HPB := hide PB
  have HF := hide h
  have HO := hide ho
  have HOL := hide hol
  have HD := hide hd
  have HDL := hide hdl
  have HX := hide hX
  clear PB h ho hol hd hdl hX hf hdn
  go_enter Try.func17, Try.ntmps17
  go_wp2_with (refine wpList_loadA rfl 26 16 aggP sizP _ rfl s 0 rfl X LX.out CX.out ?_)
  clear hs' hs1' hw1' hw2'
  refine IF.out.mono ?_
  rintro _ w3 ⟨rfl, b3⟩
  obtain ⟨c3, r3, f3, g3, B3⟩ := HPB.out.later b3
  rw [← HX.out] at c3
  have C3 := hide c3
  have AN := another_any p ov w3 (HO.out.later B3) HOL.out
  rw [← HX.out] at AN
  have HAN := hide AN
  have HB3 := hide b3
  have HB := hide B3
  have HB23 := hide b3.size
  clear IF CX c3 r3 f3 g3 AN b3 B3
  go_wp2_with (refine wpList_loadA rfl 26 16 aggP sizP _ rfl s 0 rfl X LX.out C3.out ?_)
  refine HAN.out.mono ?_
  rintro _ w4 ⟨u, rfl, cu, b4⟩
  obtain ⟨ua, uc, eu⟩ := cu.shape
  obtain ⟨un, hun⟩ : ∃ un, un = p.opts.length := ⟨_, rfl⟩
  rw [← hun] at eu
  subst eu
  have B4 := later HB.out b4
  have B24 := later HB3.out b4
  have CL := hide (cloneR_any (HD.out.later B4) HDL.out)
  have HCU := hide cu
  obtain ⟨V, hV⟩ : ∃ V, V = p.cells (.slice ua un uc) := ⟨_, rfl⟩
  rw [← hV]
  have HV := hide hV
  have HB4 := hide B4
  have HB24 := hide B24
  clear HAN C3 cu b4 B4 B24 hun hV HD HB HB3
  go_wp2_with fail
  refine CL.out.mono ?_
  rintro _ w5 ⟨d, rfl, rd, b5⟩
  obtain ⟨ea, ec, rfl⟩ := rd.shape
  obtain ⟨en, hen⟩ : ∃ en, en = D.length := ⟨_, rfl⟩
  rw [← hen] at rd ⊢
  have B5 := later HB4.out b5
  have B25 := later HB24.out b5
  obtain ⟨w6, hw6⟩ : ∃ w6, w6 = w5.alloc (.cells #[.int .i64 buf] 3) := ⟨_, rfl⟩
  have b6 : Below w5.heap.size w5 w6 := by rw [hw6]; exact later_alloc _ _
  have c6 : CellsAt w6 w5.heap.size 0 [.int .i64 buf] := by rw [hw6]; exact CellsAt.new w5 _ _
  have f6 : ∀ y, w6.frozen? ⟨w5.heap.size, y, none⟩ = false := by rw [hw6]; exact fun y => frozen_new w5 _ _ _
  have z6 : w6.heap.size = w5.heap.size + 1 := by rw [hw6, World.size_alloc]
  obtain ⟨_, r6, _, g6, B6⟩ := HPB.out.later (later B25 b6)
  obtain ⟨Y, hY⟩ : ∃ Y, Y = whC p (.slice ua un uc) (.slice ea en ec) (.slice (some ⟨w5.heap.size, 0, none⟩) 1 1) := ⟨_, rfl⟩
  have LY : Hid (Y.length = 18) := by rw [hY]; exact rfl
  have OY : Hid (∀ u ∈ Y, u.oneCell' = true) := by rw [hY]; exact whC_one p _ _ _ rfl rfl rfl
  obtain ⟨w7, hw7⟩ : ∃ w7, w7 = w6.setCells (s + 1) 0 Y := ⟨_, rfl⟩
  have b7 : But (Only (s + 1)) w6 w7 := by rw [hw7]; exact But.cells (s + 1) Y 0 w6
  have C7 : Hid (CellsAt w7 (s + 1) 0 Y) := by rw [hw7]; exact r6.stored (by rw [LY.out]; rfl)
  have R6 := hide r6
  have G6 := hide g6
  have hS := HPB.out.hs
  have hZ := HPB.out.z
  have zb24 := HB24.out.size
  have zb4 := HB4.out.size
  have z5 := b5.size
  have z7 := b7.size
  have BLD : Hid (∀ (o : Oper) (ev : Operand → Value) (W : World) (x y z : Operand), o.op = .build 49 #[(0, x), (1, y), (2, z)] → ev x = .agg V.toArray → ev y = .slice ea en ec → ev z = .slice (some ⟨w5.heap.size, 0, none⟩) 1 1 → (execOp ev o).run Try.prog W = .ok (.value (.agg Y.toArray)) W) := fun o ev W x y z ho hx hy hz => by
    rw [HV.out] at hx
    rw [hY]
    exact exec_bldWh3 x y z p ua un uc ea en ec _ 1 1 ho hx hy hz
  have FIN : Hid (FrAt (cutR ρ w.heap.size) w7 b G ∧ PutOut w w7 (cutR ρ w.heap.size) (some (p, D, [buf])) [] (.tuple #[.agg Y.toArray, .bool true, .slice none 0 0]) ∧ Below w.heap.size w w7) := by
    have B7 : Below w.heap.size w w7 := B6.trans (b7.below (by omega) (fun g hg e => by have e : g = s + 1 := e; omega))
    refine ⟨HF.out.cut.later B7, ⟨.slice ua un uc, .slice ea en ec, .slice (some ⟨w5.heap.size, 0, none⟩) 1 1, .slice none 0 0, fun g => if g < w5.heap.size then 1 else 2, by rw [hY]; rfl, ?_, ?_, RowN.nil _ _, ?_⟩, B7⟩
    · refine ((rd.later b6).but b7 (fun g e e2 => by have e2 : g = s + 1 := e2; omega)).own (fun g hg e => by have e1 := e.1; exact ⟨if_pos e.2, by omega, cutR_ge (by omega)⟩)
    · show RowN _ w7 (.slice (some ⟨w5.heap.size, 0, none⟩) 1 1) [buf]
      refine RowN.own (O := fun g => g = w5.heap.size) (RowN.but (K := Only (s + 1)) (W := w6) ?_ b7 (fun g e e2 => by have e2 : g = s + 1 := e2; omega)) (fun g hg e => ⟨by rw [e]; exact if_neg (Nat.lt_irrefl _), by omega, cutR_ge (by omega)⟩)
      refine ⟨_, 1, rfl, Nat.le_refl _, by decide, (fun e => by cases e), fun ad e => ?_⟩
      cases e
      refine ⟨_, 0, rfl, by omega, fun _ => rfl, fun j hj => c6.is j (by simpa using hj), f6, fun q x hx => ?_⟩
      have hq : q = 0 := by have := (List.getElem?_eq_some_iff.1 hx).1; simp at this; omega
      subst hq
      cases hx
      exact c6 0 _ rfl
    · exact (((HCU.out.later b5).later b6).but b7 (fun g e e2 => by have e2 : g = s + 1 := e2; have e1 : w3.heap.size ≤ g := e.1; have := HB23.out; omega)).own (fun g _ e => .inr (by have e1 : w3.heap.size ≤ g := e.1; have := HB23.out; omega))
  have hw6' := hw6.symm
  have hw7' := hw7.symm
  clear CL rd b5 B5 B25 hw6 b6 c6 f6 z6 r6 g6 B6 hY hw7 b7 hS hZ zb24 zb4 z5 z7 hen HPB
  go_wp2_with (first | (refine wpList_runV rfl (exec_bsI _ _ rfl rfl) ?_; rw [hw6']) | refine wpList_runV rfl (BLD.out _ _ _ _ _ _ rfl rfl rfl rfl) ?_ | (refine wpList_storeA rfl 49 18 sizWh _ _ rfl (s + 1) 0 rfl Y zWh rfl LY.out rfl R6.out G6.out OY.out ?_; intro _; rw [hw7']))
  refine bodyPost_ret (v := .tuple #[.agg Y.toArray, .bool true, .slice none 0 0]) (results_W rfl _ _ (s + 1) _ _ _ rfl rfl rfl (run_loadVarA 49 18 aggWh sizWh (s + 1) 0 _ LY.out C7.out)) rfl ?_
  exact ⟨_, rfl, FIN.out⟩
set_option maxRecDepth 100000 in
set_option maxHeartbeats 8000000 in
/-- a piece that may not be -/
theorem put_bad {ρ : Nat → Nat × Nat} {w : World} {b : Nat} {G : List (Nat × Gm)} {Q : Nat → Prop} (h : FrAt ρ w b G) (p : Pk) (ov : Value) (bv : Value) (D : List Int) (hd : CB Q w bv D) (hdl : D.length ≤ 140737488355328) (hp0 : -9223372036854775808 ≤ p.off) (hp1 : p.off ≤ 9223372036854775807) (buf now : Int) (hf : frg p = true) (hm : myb p D.length = false) :
    Calls Try.prog 17 #[.pointer (some ⟨b, 0, none⟩), .agg (p.cells ov).toArray, bv, .int .i64 buf, .int .i64 now] w fun e w' => ∃ v, e = .returned v ∧ FrAt (cutR ρ w.heap.size) w' b G ∧ PutOut w w' (cutR ρ w.heap.size) none [buf] v ∧ Below w.heap.size w w' := by
  rw [show (Value.agg (p.cells ov).toArray) = .agg #[.int .u8 p.src.a, .int .u8 p.src.b, .int .u8 p.src.c, .int .u8 p.src.d, .int .u8 p.dst.a, .int .u8 p.dst.b, .int .u8 p.dst.c, .int .u8 p.dst.d, .int .i64 p.proto, .int .i64 p.ttl, .int .i64 p.id, .int .i64 p.tos, .bool p.whole, .bool p.more, .int .i64 p.off, ov] from rfl]
  obtain ⟨w1, w2, s, hs', hs1', hw1', hw2', PB⟩ := putB_begin w p ov
  obtain ⟨X, hX⟩ : ∃ X, X = p.cells ov := ⟨_, rfl⟩
  have LX : Hid (X.length = 16) := by rw [hX]; exact rfl
  have CX : Hid (CellsAt w2 s 0 X) := by rw [hX]; exact PB.c
  have IF : Hid (Calls Try.prog 30 #[.agg X.toArray] w2 fun e w' => e = .returned (.bool true) ∧ Below w2.heap.size w2 w') := by
    rw [hX]
    exact (isFragment_any p ov w2).mono (fun e w' h => ⟨by rw [h.1, hf], h.2⟩)
  obtain ⟨da, dc, rfl⟩ := hd.shape
  obtain ⟨dn, hdn⟩ : ∃ dn, dn = D.length := ⟨_, rfl⟩
  rw [← hdn] at hd hm hdl ⊢
  have MB : Hid (∀ W, Calls Try.prog 33 #[.agg X.toArray, .slice da dn dc] W fun e w' => e = .returned (.bool false) ∧ Below W.heap.size W w') := fun W => by
    rw [hX]
    exact (fMay_any p ov da dn dc W hp0 hp1 hdl).mono (fun e w' h => ⟨by rw [h.1, hm], h.2⟩)
  have HPB := hide PB
  have HF := hide h
  have HX := hide hX
  clear PB h hd hdl hX hf hdn hm
  go_enter Try.func17, Try.ntmps17
  go_wp2_with (refine wpList_loadA rfl 26 16 aggP sizP _ rfl s 0 rfl X LX.out CX.out ?_)
  clear hs' hs1' hw1' hw2'
  refine IF.out.mono ?_
  rintro _ w3 ⟨rfl, b3⟩
  have C3 : Hid (CellsAt w3 s 0 X) := by rw [HX.out]; exact (HPB.out.later b3).1
  have HB3 := hide b3
  clear IF CX b3
  go_wp2_with (refine wpList_loadA rfl 26 16 aggP sizP _ rfl s 0 rfl X LX.out C3.out ?_)
  refine (MB.out w3).mono ?_
  rintro _ w5 ⟨rfl, b5⟩
  have B25 := later HB3.out b5
  obtain ⟨w6, hw6⟩ : ∃ w6, w6 = w5.alloc (.cells #[.int .i64 buf] 3) := ⟨_, rfl⟩
  have b6 : Below w5.heap.size w5 w6 := by rw [hw6]; exact later_alloc _ _
  have c6 : CellsAt w6 w5.heap.size 0 [.int .i64 buf] := by rw [hw6]; exact CellsAt.new w5 _ _
  have f6 : ∀ y, w6.frozen? ⟨w5.heap.size, y, none⟩ = false := by rw [hw6]; exact fun y => frozen_new w5 _ _ _
  have z6 : w6.heap.size = w5.heap.size + 1 := by rw [hw6, World.size_alloc]
  obtain ⟨_, r6, _, g6, B6⟩ := HPB.out.later (later B25 b6)
  obtain ⟨Y, hY⟩ : ∃ Y, Y = zWh := ⟨_, rfl⟩
  have LY : Hid (Y.length = 18) := by rw [hY]; exact rfl
  have OY : Hid (∀ u ∈ Y, u.oneCell' = true) := by rw [hY]; exact whC_one zF _ _ _ rfl rfl rfl
  obtain ⟨w7, hw7⟩ : ∃ w7, w7 = w6.setCells (s + 1) 0 Y := ⟨_, rfl⟩
  have b7 : But (Only (s + 1)) w6 w7 := by rw [hw7]; exact But.cells (s + 1) Y 0 w6
  have C7 : Hid (CellsAt w7 (s + 1) 0 Y) := by rw [hw7]; exact r6.stored (by rw [LY.out]; rfl)
  have R6 := hide r6
  have G6 := hide g6
  have hS := HPB.out.hs
  have hZ := HPB.out.z
  have zb25 := B25.size
  have z7 := b7.size
  have BLD : Hid (∀ (o : Oper) (ev : Operand → Value) (W : World), o.op = .build 49 #[] → (execOp ev o).run Try.prog W = .ok (.value (.agg Y.toArray)) W) := fun o ev W ho => by rw [hY]; exact exec_zWh ho
  have FIN : Hid (FrAt (cutR ρ w.heap.size) w7 b G ∧ PutOut w w7 (cutR ρ w.heap.size) none [buf] (.tuple #[.agg Y.toArray, .bool false, .slice (some ⟨w5.heap.size, 0, none⟩) 1 1]) ∧ Below w.heap.size w w7) := by
    have B7 : Below w.heap.size w w7 := B6.trans (b7.below (by omega) (fun g hg e => by have e : g = s + 1 := e; omega))
    refine ⟨HF.out.cut.later B7, ?_, B7⟩
    rw [hY]
    refine PutOut.none_ _ _ _ ?_
    refine RowN.own (O := fun g => g = w5.heap.size) (RowN.but (K := Only (s + 1)) (W := w6) ?_ b7 (fun g e e2 => by have e2 : g = s + 1 := e2; omega)) (fun g hg e => ⟨by omega, cutR_ge (by omega)⟩)
    refine ⟨_, 1, rfl, Nat.le_refl _, by decide, (fun e => by cases e), fun ad e => ?_⟩
    cases e
    refine ⟨_, 0, rfl, by omega, fun _ => rfl, fun j hj => c6.is j (by simpa using hj), f6, fun q x hx => ?_⟩
    have hq : q = 0 := by have := (List.getElem?_eq_some_iff.1 hx).1; simp at this; omega
    subst hq
    cases hx
    exact c6 0 _ rfl
  have hw6' := hw6.symm
  have hw7' := hw7.symm
  clear b5 B25 hw6 b6 c6 f6 z6 r6 g6 B6 hY hw7 b7 hS hZ zb25 z7 HPB MB C3
  go_wp2_with (first | (refine wpList_runV rfl (exec_bsI _ _ rfl rfl) ?_; rw [hw6']) | refine wpList_runV rfl (BLD.out _ _ _ rfl) ?_ | (refine wpList_storeA rfl 49 18 sizWh _ _ rfl (s + 1) 0 rfl Y zWh rfl LY.out rfl R6.out G6.out OY.out ?_; intro _; rw [hw7']))
  refine bodyPost_ret (v := .tuple #[.agg Y.toArray, .bool false, .slice (some ⟨w5.heap.size, 0, none⟩) 1 1]) (results_W rfl _ _ (s + 1) _ _ _ rfl rfl rfl (run_loadVarA 49 18 aggWh sizWh (s + 1) 0 _ LY.out C7.out)) rfl ?_
  exact ⟨_, rfl, FIN.out⟩
end Go.Proofs.Ytgempelfamjabaa
