
/-
  Package icmp: makeRoom, Learn.
-/
import Derived.Test.YteiendigcaedhaaT8
namespace Go.Proofs.Yteiendigcaedhaa
open Go.RowKit Go.Shelf
open Go.ChangeMaps (setBlock)

theorem exec_del {o : Oper} {w : World} {ev : Operand → Value} (x k : Operand) (T K : TypeId) (m kv : Value) (w' : World) (ho : o.op = .call { callee := .builtin .delete, args := #[x, k], argTypes := #[T, K] }) (hx : ev x = m) (hk : ev k = kv) (hrun : (Builtin.delete_ #[T, K] o.type #[m, kv]).run Try.prog w = .ok (.tuple #[]) w') : (execOp ev o).run Try.prog w = .ok (.value (.tuple #[])) w' := by
  unfold execOp
  simp [ho, hx, hk, resolve, invoke, builtin, hrun, Result.andThen]
theorem exec_upd {o : Oper} {w : World} {ev : Operand → Value} (x k y : Operand) (T : TypeId) (m kv v : Value) (w' : World) (ho : o.op = .mapUpdate T x k y) (hx : ev x = m) (hk : ev k = kv) (hy : ev y = v) (hrun : (Instr.mapUpdate T m kv v).run Try.prog w = .ok () w') : (execOp ev o).run Try.prog w = .ok .skip w' := by
  unfold execOp
  simp only [ho, hx, hk, hy, Sem.run_bind, hrun, Result.andThen_ok]
  rfl
theorem valD {ops : Array Oper} {Q : Exit → Act → World → Prop} {md : Region.Mode} {S : World → Prop} {oi : Oper} {fuel : Nat} {listed : Array Bool} {a : Act} {w w' : World} (i : Nat) (v : Value) (hr : Region.ready md ops listed = [i]) (hi : ops[i]? = some oi) (hd : oi.dst = none) (hw : Region.wanted oi (yielded ops a.tmps) = true)
    (hrun : (execOp a.eval oi).run Try.prog w = .ok (.value v) w') (hS : S w') (h : wpAnyH Try.prog md ops Q S fuel (listed.setIfInBounds i true) a w') : wpAnyH Try.prog md ops Q S (fuel + 1) listed a w := by
  refine wpAnyH_all hr (by simp) (fun k hk => ?_)
  obtain rfl : k = i := by simpa using hk
  unfold Go.wpOp
  simp only [hi, hw, if_true, Oper.wp, hrun, Oper.upon, hd, Act.put]
  exact .inl ⟨hS, h⟩
/-- room for one more -/
def pmk (L : List Pt) : List Pt := if L.length < 8 then L else L.drop 1
theorem ipc_one (L : List Pt) (j : Nat) : ∀ u ∈ ipc L j, u.oneCell' = true := ip_oneC _
theorem ipc_drop (L : List Pt) (j : Nat) : ipc (L.drop 1) j = ipc L (j + 1) := by
  unfold ipc
  rw [List.getElem?_drop, Nat.add_comm]
theorem exec_ixI4 {o : Oper} {w : World} {ev : Operand → Value} (x y : Operand) (g n c : Nat) (k : Nat) (kI : Int) (hk : (k : Int) = kI) (ho : o.op = .indexAddr 86 x y) (hx : ev x = .slice (some ⟨g, 0, none⟩) n c) (hy : ev y = .int .i64 kI) (hl : k < n) : (execOp ev o).run Try.prog w = .ok (.value (.pointer (some ⟨g, k * 4, none⟩))) w := by
  subst hk
  have hki : (k : Int) < n := by omega
  unfold execOp
  simp [ho, hx, hy, go_sem, hki]
set_option maxRecDepth 100000 in
set_option maxHeartbeats 4000000 in
theorem icRoom_any {w : World} {b ck : Nat} {O : Nat → Prop} {L : List Pt} (h : PsAt w b O L ck) (hL : L.length ≤ 8) : Calls Try.prog 44 #[.pointer (some ⟨b + 1, 0, none⟩)] w fun e w' => e = .returned (.tuple #[]) ∧ PsAt w' b O (pmk L) ck ∧ But (PsK b O) w w' := by
  obtain ⟨v, c1, hr⟩ := h.row
  obtain ⟨a, cap, rfl⟩ := hr.shape
  have c0 := h.c0
  by_cases h8 : L.length < 8
  · have e : pmk L = L := by unfold pmk; rw [if_pos h8]
    rw [e]
    have H := hide h
    obtain ⟨n, hn⟩ : ∃ n, n = L.length := ⟨_, rfl⟩
    rw [← hn] at c1 h8
    have z : (n : Int) < 8 := by omega
    clear h hr e hL hn
    go_enter Try.func44, Try.ntmps44
    go_wp2
    refine bodyPost_ret (v := .tuple #[]) (results_none rfl _ _ _) rfl ?_
    exact ⟨rfl, H.out, But.refl _ _⟩
  · have e8 : L.length = 8 := by omega
    have e : pmk L = L.drop 1 := by unfold pmk; rw [if_neg h8]
    rw [e]
    rw [e8] at c1 hr
    obtain ⟨g, ea, hg, hO, hfz, hcs⟩ := hr.at (by omega)
    subst ea
    obtain ⟨r0, hr0⟩ : ∃ r0, L[0]? = some r0 := ⟨_, List.getElem?_eq_getElem (by omega)⟩
    obtain ⟨n, hn⟩ : ∃ n, n = r0.ip := ⟨_, rfl⟩
    have hfd : pfnd n L = some (0, r0) := by
      cases L with
      | nil => cases hr0
      | cons x L' =>
        cases hr0
        unfold pfnd
        rw [if_pos (eqI_iff.2 hn)]
    have hc0 : CellsAt w g 0 n.vals := by
      have := hcs 0 (by omega)
      unfold ipc at this
      rw [hr0] at this
      rw [hn]; exact this
    obtain ⟨w2, hw2⟩ : ∃ w2, w2 = setBlock w.drew b (.map ((L.eraseIdx 0).map pent).toArray ck) := ⟨_, rfl⟩
    have b2 : But (Only b) w w2 := by rw [hw2]; exact ((But.refl (Only b) w).drew).trans (But.block_ (K := Only b) rfl _)
    have m2 : PmAt w2 b (L.drop 1) ck := by
      rw [hw2, show L.drop 1 = L.eraseIdx 0 by simp]
      exact (h.map.later (later_drew w)).set _ ck
    have nbq : b + 1 ≠ b := by omega
    have lt := h.lt
    have c02 : w2.cell? ⟨b + 1, 0, none⟩ = some (.map (some b)) := (b2.cell (p := ⟨b + 1, 0, none⟩) lt nbq).trans c0
    have c12 : w2.cell? ⟨b + 1, 1, none⟩ = some (.slice (some ⟨g, 0, none⟩) 8 cap) := (b2.cell (p := ⟨b + 1, 1, none⟩) lt nbq).trans c1
    have f12 : ∀ y, w2.frozen? ⟨b + 1, y, none⟩ = false := fun y => (b2.frozen (p := ⟨b + 1, y, none⟩) lt nbq).trans (h.fz y)
    have r2 : RowF 4 O w2 (.slice (some ⟨g, 0, none⟩) 8 cap) 8 (ipc L) := hr.but b2 (fun g' hg' e => h.nb (by have e : g' = b := e; rw [← e]; exact hg'))
    have D2 := hide (icDel_any (fun j => ipc_len L j) (fun j => ipc_one L j) r2)
    have RUN : Hid ((Builtin.delete_ #[85, 35] 0 #[.map (some b), .agg n.vals.toArray]).run Try.prog w.drew = .ok (.tuple #[]) w2) := by rw [hw2]; exact pdel_run (h.map.later (later_drew w)) n 0 r0 hfd 0
    have H := hide h
    have E8 := hide e8
    have S1 : Hid (∀ W, Below w.heap.size w W → W.cell? ⟨b + 1, 0, none⟩ = some (.map (some b)) ∧ W.cell? ⟨b + 1, 1, none⟩ = some (.slice (some ⟨g, 0, none⟩) 8 cap) ∧ CellsAt W g 0 n.vals) := fun W hW => ⟨(hW.cell (p := ⟨b + 1, 0, none⟩) lt).trans c0, (hW.cell (p := ⟨b + 1, 1, none⟩) lt).trans c1, hc0.later hg hW⟩
    have C12 := hide c12
    have C02 := hide c02
    have F12 := hide f12
    have M2 := hide m2
    have B2 := hide b2
    have NG : Hid (g ≠ b ∧ g ≠ b + 1) := ⟨fun e => h.nb (e ▸ hO), fun e => h.nq (e ▸ hO)⟩
    have HO := hide hO
    have lg2 : g < w2.heap.size := Nat.lt_of_lt_of_le hg b2.size
    have S2 : Hid (w2.cell? ⟨b + 1, 0, none⟩ = some (.map (some b)) ∧ w2.cell? ⟨b + 1, 1, none⟩ = some (.slice (some ⟨g, 0, none⟩) 8 cap) ∧ CellsAt w2 g 0 n.vals) := ⟨c02, c12, hc0.but hg b2 (fun e => h.nb (by have e : g = b := e; rw [← e]; exact hO))⟩
    clear hr hcs hr0 hn hfd hc0 hw2 m2 c02 c12 f12 r2 h e e8 hL h8 hfz b2
    go_enter Try.func44, Try.ntmps44
    go_upto_region 1 with fail
    clear c0 c1
    refine wp_region_held (S := fun W => W.cell? ⟨b + 1, 0, none⟩ = some (.map (some b)) ∧ W.cell? ⟨b + 1, 1, none⟩ = some (.slice (some ⟨g, 0, none⟩) 8 cap) ∧ CellsAt W g 0 n.vals) (by kernel_rfl) ?_
    have Sd := S1.out w.drew (later_drew w)
    refine takeD (i := 0) (v := .pointer (some ⟨b + 1, 0, none⟩)) 8 rfl rfl (by kernel_rfl) (by kernel_rfl) (by kernel_rfl) (fun _ _ _ h => h) (.inl ⟨by rfl, fun W hW => exec_move _ _ rfl rfl⟩) (Sd) ?_
    try simp only [Act.put, List.setIfInBounds_toArray, List.set_cons_zero, List.set_cons_succ]
    refine takeD (i := 1) (v := .pointer (some ⟨b + 1, 0, none⟩)) 9 rfl rfl (by kernel_rfl) (by kernel_rfl) (by kernel_rfl) (fun _ _ _ h => h) (.inl ⟨by rfl, fun W hW => exec_nil _ _ rfl rfl⟩) (Sd) ?_
    try simp only [Act.put, List.setIfInBounds_toArray, List.set_cons_zero, List.set_cons_succ]
    refine takeD (i := 2) (v := .pointer (some ⟨b + 1, 0, none⟩)) 10 rfl rfl (by kernel_rfl) (by kernel_rfl) (by kernel_rfl) (fun _ _ _ h => h) (.inl ⟨by rfl, fun W hW => exec_fieldO 88 _ 0 (b + 1) 0 0 rfl rfl (fun w => by kernel_rfl)⟩) (Sd) ?_
    try simp only [Act.put, List.setIfInBounds_toArray, List.set_cons_zero, List.set_cons_succ]
    refine takeD (i := 3) (v := .map (some b)) 11 rfl rfl (by kernel_rfl) (by kernel_rfl) (by kernel_rfl) (fun _ _ _ h => h) (.inl ⟨by rfl, fun W hW => exec_load1 85 onePm _ rfl (b + 1) 0 rfl (.map (some b)) (hW.1)⟩) (Sd) ?_
    try simp only [Act.put, List.setIfInBounds_toArray, List.set_cons_zero, List.set_cons_succ]
    refine takeD (i := 4) (v := .pointer (some ⟨b + 1, 0, none⟩)) 12 rfl rfl (by kernel_rfl) (by kernel_rfl) (by kernel_rfl) (fun _ _ _ h => h) (.inl ⟨by rfl, fun W hW => exec_move _ _ rfl rfl⟩) (Sd) ?_
    try simp only [Act.put, List.setIfInBounds_toArray, List.set_cons_zero, List.set_cons_succ]
    refine takeD (i := 5) (v := .pointer (some ⟨b + 1, 0, none⟩)) 13 rfl rfl (by kernel_rfl) (by kernel_rfl) (by kernel_rfl) (fun _ _ _ h => h) (.inl ⟨by rfl, fun W hW => exec_nil _ _ rfl rfl⟩) (Sd) ?_
    try simp only [Act.put, List.setIfInBounds_toArray, List.set_cons_zero, List.set_cons_succ]
    refine takeD (i := 6) (v := .pointer (some ⟨b + 1, 1, none⟩)) 14 rfl rfl (by kernel_rfl) (by kernel_rfl) (by kernel_rfl) (fun _ _ _ h => h) (.inl ⟨by rfl, fun W hW => exec_fieldO 88 _ 1 (b + 1) 0 1 rfl rfl (fun w => by kernel_rfl)⟩) (Sd) ?_
    try simp only [Act.put, List.setIfInBounds_toArray, List.set_cons_zero, List.set_cons_succ]
    refine takeD (i := 7) (v := .slice (some ⟨g, 0, none⟩) 8 cap) 15 rfl rfl (by kernel_rfl) (by kernel_rfl) (by kernel_rfl) (fun _ _ _ h => h) (.inl ⟨by rfl, fun W hW => exec_load1 86 oneIs _ rfl (b + 1) 1 rfl (.slice (some ⟨g, 0, none⟩) 8 cap) (hW.2.1)⟩) (Sd) ?_
    try simp only [Act.put, List.setIfInBounds_toArray, List.set_cons_zero, List.set_cons_succ]
    refine takeD (i := 8) (v := .pointer (some ⟨g, 0, none⟩)) 16 rfl rfl (by kernel_rfl) (by kernel_rfl) (by kernel_rfl) (fun _ _ _ h => h) (.inl ⟨by rfl, fun W hW => exec_ixI4 _ _ g 8 cap 0 0 rfl rfl rfl rfl (by omega)⟩) (Sd) ?_
    try simp only [Act.put, List.setIfInBounds_toArray, List.set_cons_zero, List.set_cons_succ]
    refine takeD (i := 9) (v := .agg (n.vals).toArray) 17 rfl rfl (by kernel_rfl) (by kernel_rfl) (by kernel_rfl) (fun _ _ _ h => h) (.inl ⟨by rfl, fun W hW => exec_loadA 35 4 aggI sizI _ rfl g 0 rfl (n.vals) rfl (hW.2.2)⟩) (Sd) ?_
    try simp only [Act.put, List.setIfInBounds_toArray, List.set_cons_zero, List.set_cons_succ]
    refine valD (w' := w2) 10 (.tuple #[]) (by kernel_rfl) rfl rfl rfl (exec_del _ _ _ _ _ _ _ rfl rfl rfl RUN.out) S2.out ?_
    refine wpAnyH_done (by kernel_rfl) ?_ _
    have x1 := C12.out
    have x0 := C02.out
    clear Sd S1
    go_wp2_with fail
    refine D2.out.mono ?_
    rintro _ w3 ⟨rfl, r3, b3⟩
    have k1 : ¬ Only g b := fun e => NG.out.1 (Eq.symm e)
    have k2 : ¬ Only g (b + 1) := fun e => NG.out.2 (Eq.symm e)
    have lt2 : b + 1 < w2.heap.size := Nat.lt_of_lt_of_le lt B2.out.size
    have c13 : w3.cell? ⟨b + 1, 1, none⟩ = some (.slice (some ⟨g, 0, none⟩) 8 cap) := (b3.cell (p := ⟨b + 1, 1, none⟩) lt2 k2).trans C12.out
    have c03 : w3.cell? ⟨b + 1, 0, none⟩ = some (.map (some b)) := (b3.cell (p := ⟨b + 1, 0, none⟩) lt2 k2).trans C02.out
    have f13 : ∀ y, w3.frozen? ⟨b + 1, y, none⟩ = false := fun y => (b3.frozen (p := ⟨b + 1, y, none⟩) lt2 k2).trans (F12.out y)
    have ff := f13 1
    obtain ⟨w4, hw4⟩ : ∃ w4, w4 = w3.setCell ⟨b + 1, 1, none⟩ (.slice (some ⟨g, 0, none⟩) 7 cap) := ⟨_, rfl⟩
    have b4 : But (Only (b + 1)) w3 w4 := by rw [hw4]; exact (But.refl (Only (b + 1)) w3).cellb (b := b + 1) rfl 1 _
    have P4 : Hid (PsAt w4 b O (L.drop 1) ck) := by
      refine ⟨by rw [hw4, setCell_out (by decide)]; exact c03, fun y => by rw [hw4, World.frozen?_setCell]; exact f13 y, (M2.out.but b3 k1).but b4 (fun e => by have e : b = b + 1 := e; omega), ⟨.slice (some ⟨g, 0, none⟩) 7 cap, by rw [hw4]; exact World.cell?_setCell_same _ _ _ c13, ?_⟩, H.out.nb, H.out.nq⟩
      have e7 : (L.drop 1).length = 7 := by rw [List.length_drop, E8.out]
      rw [e7]
      exact (r3.but b4 (fun g' hg' e => H.out.nq (by have e : g' = b + 1 := e; rw [← e]; exact hg'))).cong (fun q _ => ipc_drop L q)
    have B4 : Hid (But (PsK b O) w w4) := ((B2.out.mono (fun g' e => .inl e)).trans (b3.mono (fun g' e => .inr (.inr (by have e : g' = g := e; rw [e]; exact HO.out))))).trans (b4.mono (fun g' e => .inr (.inl e)))
    have hw4' := hw4.symm
    clear hw4 b3 b4 r3 f13 D2
    go_wp2
    go_end0
    exact ⟨rfl, P4.out, B4.out⟩
theorem s1Is (w : World) : (Go.sizeOf 86).run Try.prog w = .ok 1 w := by kernel_rfl
theorem exec_bsI4 {o : Oper} {w : World} {ev : Operand → Value} (x : Operand) (y : I4) (ho : o.op = .buildSlice 86 1 #[(0, x)]) (hx : ev x = .agg y.vals.toArray) : (execOp ev o).run Try.prog w = .ok (.value (.slice (some ⟨w.heap.size, 0, none⟩) 1 1)) (w.alloc (.cells y.vals.toArray 35)) := by
  obtain ⟨a1, a2, a3, a4⟩ := y
  unfold execOp
  simp [ho, hx, go_sem, I4.vals]
/-- does Learn take it? -/
def plB (n : I4) (m : Int) (L : List Pt) : Bool := decide (68 ≤ m) && decide (m < pfE n L)
def plL (n : I4) (m : Int) (L : List Pt) (ck : Nat) : List Pt := match pfnd n L with
  | some p => L.set p.1 ⟨n, m, p.2.bn⟩
  | none => pmk L ++ [⟨n, m, ck⟩]
theorem pfnd_none_of {n : I4} : ∀ {L : List Pt}, (∀ r ∈ L, r.ip ≠ n) → pfnd n L = none
  | [], _ => rfl
  | x :: L, h => by
    unfold pfnd
    rw [if_neg (fun e => h x (by simp) (eqI_iff.1 e).symm), pfnd_none_of (fun r hr => h r (by simp [hr]))]
    rfl
theorem pfnd_pmk {n : I4} {L : List Pt} (h : pfnd n L = none) : pfnd n (pmk L) = none := by
  unfold pmk
  split
  · exact h
  · exact pfnd_none_of (fun r hr => pfnd_none h r (List.mem_of_mem_drop hr))
theorem pmk_len {L : List Pt} (h : L.length ≤ 8) : (pmk L).length < 8 := by
  unfold pmk
  split
  · assumption
  · rw [List.length_drop]; omega
theorem ipc_app (L : List Pt) (r : Pt) (q : Nat) (hq : q < L.length + 1) : ipc (L ++ [r]) q = if q < L.length then ipc L q else r.ip.vals := by
  unfold ipc
  by_cases e : q < L.length
  · rw [if_pos e, List.getElem?_append_left e]
  · rw [if_neg e, show q = L.length by omega]
    simp
theorem ipc_set {n : I4} {L : List Pt} {i : Nat} {r x : Pt} (h : L[i]? = some r) (he : r.ip = n) (hx : x.ip = n) (q : Nat) : ipc (L.set i x) q = ipc L q := by
  unfold ipc
  rw [List.getElem?_set]
  by_cases e : i = q
  · subst e
    have := (List.getElem?_eq_some_iff.1 h).1
    rw [if_pos rfl, if_pos this, h]
    simp [he, hx]
  · rw [if_neg e]
set_option maxRecDepth 100000 in
set_option maxHeartbeats 8000000 in
theorem icLearn_any {w : World} {b ck : Nat} {O : Nat → Prop} {L : List Pt} (h : PsAt w b O L ck) (hO : ∀ g, O g → g < w.heap.size) (hL : L.length ≤ 8) (n : I4) (m : Int) : Calls Try.prog 26 #[.pointer (some ⟨b + 1, 0, none⟩), .agg n.vals.toArray, .int .i64 m] w fun e w' => e = .returned (.bool (plB n m L)) ∧ (∃ ck', PsAt w' b (fun g => O g ∨ (w.heap.size ≤ g ∧ g < w'.heap.size)) (if plB n m L = true then plL n m L ck else L) ck') ∧ But (PsK b O) w w' := by
  obtain ⟨s, hs⟩ : ∃ s, s = w.heap.size := ⟨_, rfl⟩
  obtain ⟨V, hV⟩ : ∃ V, V = n.vals := ⟨_, rfl⟩
  obtain ⟨w1, hw1⟩ : ∃ w1, w1 = w.alloc (.cells V.toArray 35) := ⟨_, rfl⟩
  have b1 : Below w.heap.size w w1 := by rw [hw1]; exact (Below.refl _ w).alloc (Nat.le_refl _) _
  have c1 : CellsAt w1 s 0 V := by rw [hw1, hs]; exact CellsAt.new w V 35
  have LV : Hid (V.length = 4) := by rw [hV]; exact (rfl : n.vals.length = 4)
  have l1 : s < w1.heap.size := c1.lt (by rw [LV.out]; decide)
  have lt := h.lt
  have H1 := hide (h.later b1)
  have B1 := hide b1
  have C1 := hide c1
  have HV := hide hV
  have HS := hide hs
  obtain ⟨q, hq⟩ : ∃ q, q = plB n m L := ⟨_, rfl⟩
  have HO := hide hO
  have FIN : ∀ (W : World) (M : List Pt) (k : Nat), PsAt W b O M k → Below w.heap.size w W ∨ But (PsK b O) w W → PsAt W b (fun g => O g ∨ (w.heap.size ≤ g ∧ g < W.heap.size)) M k := fun W M k hW _ =>
    hW.own (fun g _ e => .inl e) (fun e => by rcases e with e | e; exact hW.nb e; omega) (fun e => by rcases e with e | e; exact hW.nq e; omega)
  have HFIN := hide FIN
  rw [← hq, ← hV]
  have hw1' := hw1.symm
  have hs' := hs.symm
  have HQ := hide hq
  clear hw1 hs b1 c1 FIN hO hV hq
  by_cases h68 : m < 68
  · have e : q = false := by rw [HQ.out, plB, decide_eq_false (by omega), Bool.false_and]
    subst e
    have P := hide (HFIN.out w1 L ck H1.out (.inl B1.out))
    have BB : Hid (But (PsK b O) w w1) := (But.of_below B1.out).mono (K := fun _ => False) (fun g e => False.elim e)
    go_enter Try.func26, Try.ntmps26
    go_wp2
    go_ret
    exact ⟨rfl, ⟨ck, by have h := P.out; rw [← HS.out] at h; simpa using h⟩, BB.out⟩
  obtain ⟨A, hA⟩ : ∃ A : Array Value, A = #[.int .u8 n.a, .int .u8 n.b, .int .u8 n.c, .int .u8 n.d] := ⟨_, rfl⟩
  have EA : Hid (V.toArray = A) := by rw [HV.out, hA]; exact rfl
  have FD : Hid (Calls Try.prog 25 #[.pointer (some ⟨b + 1, 0, none⟩), .agg #[.int .u8 n.a, .int .u8 n.b, .int .u8 n.c, .int .u8 n.d]] w1 fun e w' => e = .returned (.int .i64 (pfE n L)) ∧ Below w1.heap.size w1 w') := icFindP_any H1.out n
  obtain ⟨F, hF⟩ : ∃ F, F = pfE n L := ⟨_, rfl⟩
  rw [← hF] at FD
  have HF := hide hF
  have c1' := C1.out
  rw [HV.out] at c1'
  have k0 : w1.cell? ⟨s, 0, none⟩ = some (.int .u8 n.a) := c1' 0 _ rfl
  have k1 : w1.cell? ⟨s, 1, none⟩ = some (.int .u8 n.b) := c1' 1 _ rfl
  have k2 : w1.cell? ⟨s, 2, none⟩ = some (.int .u8 n.c) := c1' 2 _ rfl
  have k3 : w1.cell? ⟨s, 3, none⟩ = some (.int .u8 n.d) := c1' 3 _ rfl
  clear hF hA c1'
  go_enter Try.func26, Try.ntmps26
  go_wp2_with fail
  clear hw1' hs' k0 k1 k2 k3
  refine FD.out.mono ?_
  rintro _ w2 ⟨rfl, b2⟩
  have H2 := hide (H1.out.later b2)
  have B2 := hide (later B1.out b2)
  have C2 := hide (C1.out.later l1 b2)
  have l2 : s < w2.heap.size := Nat.lt_of_lt_of_le l1 b2.size
  clear b2 FD
  by_cases hge : F ≤ m
  · have e : q = false := by rw [HQ.out, plB, ← HF.out, decide_eq_false (show ¬ m < F by omega), Bool.and_false]
    subst e
    have P := hide (HFIN.out w2 L ck H2.out (.inl B2.out))
    have BB : Hid (But (PsK b O) w w2) := (But.of_below B2.out).mono (K := fun _ => False) (fun g e => False.elim e)
    go_wp2
    go_ret
    exact ⟨rfl, ⟨ck, by have h := P.out; simpa using h⟩, BB.out⟩
  have e : q = true := by rw [HQ.out, plB, ← HF.out, decide_eq_true (show m < F by omega), decide_eq_true (show 68 ≤ m by omega)]; rfl
  subst e
  -- is it known?
  obtain ⟨G, hG⟩ : ∃ G, G = pgot n L := ⟨_, rfl⟩
  obtain ⟨kn, hkn⟩ : ∃ kn, kn = (pfnd n L).isSome := ⟨_, rfl⟩
  have LK : Hid (∀ W, PmAt W b L ck → (Instr.lookup 85 (.map (some b)) (.agg V.toArray) true).run Try.prog W = .ok (.tuple #[.int .i64 G, .bool kn]) W) := fun W hW => by rw [hG, hkn, HV.out]; exact plook_run hW n
  have HKN := hide hkn
  clear hG hkn
  go_upto_region 3 with fail
  refine region_quiet_C (fun W => Below w2.heap.size w2 W) (by kernel_rfl) (by kernel_rfl) (later_drew _) ?_
  go_big_quiet_step (fail)
  go_big_quiet_want
  refine quiet_pure (.pointer (some ⟨b + 1, 0, none⟩)) (fun W hW => exec_nil _ _ rfl rfl) ?_
  go_big_quiet_on
  simp only [Act.put, List.setIfInBounds_toArray, List.set_cons_succ, List.set_cons_zero]
  go_big_quiet_want
  refine quiet_pure (.pointer (some ⟨b + 1, 0, none⟩)) (fun W hW => exec_fieldO 88 _ 0 (b + 1) 0 0 rfl rfl (fun w => by kernel_rfl)) ?_
  go_big_quiet_on
  simp only [Act.put, List.setIfInBounds_toArray, List.set_cons_succ, List.set_cons_zero]
  go_big_quiet_want
  refine quiet_pure (.map (some b)) (fun W hW => exec_load1 85 onePm _ rfl (b + 1) 0 rfl (.map (some b)) ((H2.out.later hW).c0)) ?_
  go_big_quiet_on
  simp only [Act.put, List.setIfInBounds_toArray, List.set_cons_succ, List.set_cons_zero]
  go_big_quiet_want
  refine quiet_pure (.agg V.toArray) (fun W hW => exec_loadA 35 4 aggI sizI _ rfl s 0 rfl V LV.out (C2.out.later l2 hW)) ?_
  go_big_quiet_on
  simp only [Act.put, List.setIfInBounds_toArray, List.set_cons_succ, List.set_cons_zero]
  go_big_quiet_want
  refine quiet_pure (.tuple #[.int .i64 G, .bool kn]) (fun W hW => exec_look _ _ _ _ _ _ _ rfl rfl rfl (LK.out W (H2.out.later hW).map)) ?_
  go_big_quiet_on
  simp only [Act.put, List.setIfInBounds_toArray, List.set_cons_succ, List.set_cons_zero]
  go_big_quiet_step (fail)
  go_big_quiet_want
  refine quiet_pure (.int .i64 G) (fun W hW => exec_ext _ _ [.int .i64 G, .bool kn] _ rfl rfl rfl) ?_
  go_big_quiet_on
  simp only [Act.put, List.setIfInBounds_toArray, List.set_cons_succ, List.set_cons_zero]
  go_big_quiet_want
  refine quiet_pure (.bool kn) (fun W hW => exec_ext _ _ [.int .i64 G, .bool kn] _ rfl rfl rfl) ?_
  go_big_quiet_on
  simp only [Act.put, List.setIfInBounds_toArray, List.set_cons_succ, List.set_cons_zero]
  go_big_quiet_step (fail)
  go_big_quiet_step (fail)
  refine wpQuiet_nil ?_
  intro wq bq
  have H3 := hide (H2.out.later bq)
  have B3 := hide (later B2.out bq)
  have C3 := hide (C2.out.later l2 bq)
  have l3 : s < wq.heap.size := Nat.lt_of_lt_of_le l2 bq.size
  have lt3 : b + 1 < wq.heap.size := H3.out.lt
  clear bq LK H2 C2
  have BBq : Hid (But (PsK b O) w wq) := (But.of_below B3.out).mono (K := fun _ => False) (fun g e => False.elim e)
  cases hf : pfnd n L with
  | some ir =>
    obtain ⟨i, r⟩ := ir
    have ek : kn = true := by rw [HKN.out, hf]; rfl
    subst ek
    have EL : Hid (plL n m L ck = L.set i ⟨n, m, r.bn⟩) := by unfold Hid plL; rw [hf]
    obtain ⟨w5, hw5⟩ : ∃ w5, w5 = setBlock wq.drew b (.map ((L.set i (⟨n, m, r.bn⟩ : Pt)).map pent).toArray ck) := ⟨_, rfl⟩
    have RUN : Hid ((Instr.mapUpdate 85 (.map (some b)) (.agg V.toArray) (.int .i64 m)).run Try.prog wq.drew = .ok () w5) := by rw [hw5, HV.out]; exact pupd_old (H3.out.map.later (later_drew _)) n m i r hf
    have b5 : But (Only b) wq w5 := by rw [hw5]; exact ((But.refl (Only b) wq).drew).trans (But.block_ (K := Only b) rfl _)
    have nbq : ¬ Only b (b + 1) := fun e => by have e : b + 1 = b := e; omega
    obtain ⟨fi, fr⟩ := pfnd_some hf
    have P5 : PsAt w5 b O (L.set i ⟨n, m, r.bn⟩) ck := by
      obtain ⟨v, h1, h2⟩ := H3.out.row
      refine ⟨(b5.cell (p := ⟨b + 1, 0, none⟩) lt3 nbq).trans H3.out.c0, fun y => (b5.frozen (p := ⟨b + 1, y, none⟩) lt3 nbq).trans (H3.out.fz y), by rw [hw5]; exact (H3.out.map.later (later_drew _)).set _ ck, ⟨v, (b5.cell (p := ⟨b + 1, 1, none⟩) lt3 nbq).trans h1, ?_⟩, H3.out.nb, H3.out.nq⟩
      rw [List.length_set]
      exact (h2.but b5 (fun g hg e => H3.out.nb (by have e : g = b := e; rw [← e]; exact hg))).cong (fun q _ => ipc_set fi fr rfl q)
    have BB5 : Hid (But (PsK b O) w w5) := BBq.out.trans (b5.mono (fun g e => .inl e))
    have PF := hide (HFIN.out w5 _ ck P5 (.inr BB5.out))
    have Sd : wq.drew.cell? ⟨b + 1, 0, none⟩ = some (.map (some b)) ∧ CellsAt wq.drew s 0 V := ⟨(H3.out.later (later_drew _)).c0, C3.out⟩
    have S5 : w5.cell? ⟨b + 1, 0, none⟩ = some (.map (some b)) ∧ CellsAt w5 s 0 V := ⟨P5.c0, C3.out.but l3 b5 (fun e => by have e : s = b := e; have := HS.out; omega)⟩
    clear hf hw5 b5 fi fr P5 HKN
    go_upto_region 7 with fail
    refine wp_region_held (S := fun W => W.cell? ⟨b + 1, 0, none⟩ = some (.map (some b)) ∧ CellsAt W s 0 V) (by kernel_rfl) ?_
    refine takeD (i := 0) (v := .pointer (some ⟨b + 1, 0, none⟩)) 41 rfl rfl (by kernel_rfl) (by kernel_rfl) (by kernel_rfl) (fun _ _ _ h => h) (.inl ⟨by rfl, fun W hW => exec_move _ _ rfl rfl⟩) (Sd) ?_
    try simp only [Act.put, List.setIfInBounds_toArray, List.set_cons_zero, List.set_cons_succ]
    refine takeD (i := 1) (v := .pointer (some ⟨b + 1, 0, none⟩)) 42 rfl rfl (by kernel_rfl) (by kernel_rfl) (by kernel_rfl) (fun _ _ _ h => h) (.inl ⟨by rfl, fun W hW => exec_nil _ _ rfl rfl⟩) (Sd) ?_
    try simp only [Act.put, List.setIfInBounds_toArray, List.set_cons_zero, List.set_cons_succ]
    refine takeD (i := 2) (v := .pointer (some ⟨b + 1, 0, none⟩)) 43 rfl rfl (by kernel_rfl) (by kernel_rfl) (by kernel_rfl) (fun _ _ _ h => h) (.inl ⟨by rfl, fun W hW => exec_fieldO 88 _ 0 (b + 1) 0 0 rfl rfl (fun w => by kernel_rfl)⟩) (Sd) ?_
    try simp only [Act.put, List.setIfInBounds_toArray, List.set_cons_zero, List.set_cons_succ]
    refine takeD (i := 3) (v := .map (some b)) 44 rfl rfl (by kernel_rfl) (by kernel_rfl) (by kernel_rfl) (fun _ _ _ h => h) (.inl ⟨by rfl, fun W hW => exec_load1 85 onePm _ rfl (b + 1) 0 rfl (.map (some b)) (hW.1)⟩) (Sd) ?_
    try simp only [Act.put, List.setIfInBounds_toArray, List.set_cons_zero, List.set_cons_succ]
    refine takeD (i := 4) (v := .agg V.toArray) 45 rfl rfl (by kernel_rfl) (by kernel_rfl) (by kernel_rfl) (fun _ _ _ h => h) (.inl ⟨by rfl, fun W hW => exec_loadA 35 4 aggI sizI _ rfl s 0 rfl V LV.out hW.2⟩) (Sd) ?_
    try simp only [Act.put, List.setIfInBounds_toArray, List.set_cons_zero, List.set_cons_succ]
    refine takeD (i := 5) (v := .int .i64 m) 46 rfl rfl (by kernel_rfl) (by kernel_rfl) (by kernel_rfl) (fun _ _ _ h => h) (.inl ⟨by rfl, fun W hW => exec_move _ _ rfl rfl⟩) (Sd) ?_
    try simp only [Act.put, List.setIfInBounds_toArray, List.set_cons_zero, List.set_cons_succ]
    refine storeD (w' := w5) 6 (by kernel_rfl) rfl rfl (by rfl) (exec_upd _ _ _ _ _ _ _ _ rfl rfl rfl rfl RUN.out) (S5) ?_
    try simp only [Act.put, List.setIfInBounds_toArray, List.set_cons_zero, List.set_cons_succ]
    refine wpAnyH_done (by kernel_rfl) ?_ _
    clear Sd S5
    go_wp2
    go_ret
    exact ⟨rfl, ⟨ck, by have h := PF.out; rw [← EL.out] at h; simpa using h⟩, BB5.out⟩
  | none =>
    have ek : kn = false := by rw [HKN.out, hf]; rfl
    subst ek
    have EL : Hid (plL n m L ck = pmk L ++ [⟨n, m, ck⟩]) := by unfold Hid plL; rw [hf]
    have RM := hide (icRoom_any H3.out hL)
    have HFN := hide (pfnd_pmk hf)
    have HL8 := hide (pmk_len hL)
    obtain ⟨M, hM⟩ : ∃ M, M = pmk L := ⟨_, rfl⟩
    rw [← hM] at RM HFN HL8 EL
    clear hf HKN hM
    go_wp2_with fail
    refine RM.out.mono ?_
    rintro _ w4 ⟨rfl, P4, b4⟩
    have BB4 : Hid (But (PsK b O) w w4) := BBq.out.trans b4
    have ns : ¬ PsK b O s := fun e => by
      have := HS.out
      rcases e with e | e | e
      · omega
      · omega
      · have := HO.out s e; omega
    have nob : ¬ O (b + 1) := P4.nq
    have C4 := hide (C3.out.but l3 b4 ns)
    have l4 : s < w4.heap.size := Nat.lt_of_lt_of_le l3 b4.size
    have lt4 : b + 1 < w4.heap.size := P4.lt
    obtain ⟨v4, cv, rv⟩ := P4.row
    obtain ⟨va, vc, rfl⟩ := rv.shape
    obtain ⟨k, hk⟩ : ∃ k, k = M.length := ⟨_, rfl⟩
    rw [← hk] at cv rv HL8
    have k7 : k < 8 := HL8.out
    have H4 := hide P4
    have HK := hide hk
    have CV := hide cv
    have RV := hide rv
    clear RM b4 P4 cv rv hk
    go_upto_region 6 with fail
    obtain ⟨p2, hp2⟩ : ∃ p2, p2 = w4.drew.heap.size := ⟨_, rfl⟩
    obtain ⟨wE, hwE⟩ : ∃ z, z = w4.drew.alloc (.cells V.toArray 35) := ⟨_, rfl⟩
    have bE : Below w4.heap.size w4 wE := by rw [hwE]; exact (Below.refl _ w4).drew.alloc (Nat.le_refl _) _
    have cE : CellsAt wE p2 0 V := by rw [hwE, hp2]; exact CellsAt.new w4.drew V 35
    obtain ⟨i0, hi, hz0, hz1, hz2⟩ := info_parts info_ip
    obtain ⟨a', c', wF, hrun, rF, hbF⟩ := (RV.out.later bE).push 86 35 i0 _ Try.underlying86 hi hz0 hz1 (by omega) rfl (fun j hj => ipc_len M j) (fun j hj => ipc_one M j) V LV.out (by rw [HV.out]; exact ip_oneC n) p2 cE (by omega)
    have ltE : b + 1 < wE.heap.size := Nat.lt_of_lt_of_le lt4 bE.size
    have cvE := (bE.cell (p := ⟨b + 1, 1, none⟩) lt4).trans CV.out
    have fvE : wE.frozen? ⟨b + 1, 1, none⟩ = false := (H4.out.later bE).fz 1
    have cvF := (hbF.cell (p := ⟨b + 1, 1, none⟩) ltE nob).trans cvE
    have fvF := (hbF.frozen (p := ⟨b + 1, 1, none⟩) ltE nob).trans fvE
    have csE := C4.out.later l4 bE
    have nos : ¬ O s := fun e => ns (.inr (.inr e))
    have csF := csE.but (Nat.lt_of_lt_of_le l4 bE.size) hbF nos
    obtain ⟨wG, hwG⟩ : ∃ z, z = wF.setCell ⟨b + 1, 1, none⟩ (.slice a' (k + 1) c') := ⟨_, rfl⟩
    have bG : But (Only (b + 1)) wF wG := by rw [hwG]; exact (But.refl (Only (b + 1)) wF).cellb (b := b + 1) rfl 1 _
    have Sd : w4.drew.cell? ⟨b + 1, 1, none⟩ = some (.slice va k vc) ∧ CellsAt w4.drew s 0 V := ⟨CV.out, C4.out⟩
    have SE : wE.cell? ⟨b + 1, 1, none⟩ = some (.slice va k vc) ∧ CellsAt wE s 0 V := ⟨cvE, csE⟩
    have SF : wF.cell? ⟨b + 1, 1, none⟩ = some (.slice va k vc) ∧ CellsAt wF s 0 V := ⟨cvF, csF⟩
    refine regionJ (fun i => i != 10) (fun W => W.cell? ⟨b + 1, 1, none⟩ = some (.slice va k vc) ∧ CellsAt W s 0 V) (by kernel_rfl) ?_
    refine takeJ (i := 0) (v := .pointer (some ⟨b + 1, 0, none⟩)) 31 rfl rfl (by kernel_rfl) (by kernel_rfl) (by kernel_rfl) (by kernel_rfl) (fun _ _ _ h => h) (.inl ⟨by rfl, fun W hW => exec_move _ _ rfl rfl⟩) (Sd) ?_
    try simp only [Act.put, List.setIfInBounds_toArray, List.set_cons_zero, List.set_cons_succ]
    refine takeJ (i := 1) (v := .pointer (some ⟨b + 1, 0, none⟩)) 32 rfl rfl (by kernel_rfl) (by kernel_rfl) (by kernel_rfl) (by kernel_rfl) (fun _ _ _ h => h) (.inl ⟨by rfl, fun W hW => exec_move _ _ rfl rfl⟩) (Sd) ?_
    try simp only [Act.put, List.setIfInBounds_toArray, List.set_cons_zero, List.set_cons_succ]
    refine takeJ (i := 2) (v := .pointer (some ⟨b + 1, 0, none⟩)) 33 rfl rfl (by kernel_rfl) (by kernel_rfl) (by kernel_rfl) (by kernel_rfl) (fun _ _ _ h => h) (.inl ⟨by rfl, fun W hW => exec_nil _ _ rfl rfl⟩) (Sd) ?_
    try simp only [Act.put, List.setIfInBounds_toArray, List.set_cons_zero, List.set_cons_succ]
    refine takeJ (i := 3) (v := .pointer (some ⟨b + 1, 1, none⟩)) 34 rfl rfl (by kernel_rfl) (by kernel_rfl) (by kernel_rfl) (by kernel_rfl) (fun _ _ _ h => h) (.inl ⟨by rfl, fun W hW => exec_fieldO 88 _ 1 (b + 1) 0 1 rfl rfl (fun w => by kernel_rfl)⟩) (Sd) ?_
    try simp only [Act.put, List.setIfInBounds_toArray, List.set_cons_zero, List.set_cons_succ]
    refine takeJ (i := 4) (v := .slice va k vc) 35 rfl rfl (by kernel_rfl) (by kernel_rfl) (by kernel_rfl) (by kernel_rfl) (fun _ _ _ h => h) (.inl ⟨by rfl, fun W hW => exec_load1 86 oneIs _ rfl (b + 1) 1 rfl (.slice va k vc) (hW.1)⟩) (Sd) ?_
    try simp only [Act.put, List.setIfInBounds_toArray, List.set_cons_zero, List.set_cons_succ]
    refine takeJ (i := 5) (v := .agg V.toArray) 36 rfl rfl (by kernel_rfl) (by kernel_rfl) (by kernel_rfl) (by kernel_rfl) (fun _ _ _ h => h) (.inl ⟨by rfl, fun W hW => exec_loadA 35 4 aggI sizI _ rfl s 0 rfl V LV.out hW.2⟩) (Sd) ?_
    try simp only [Act.put, List.setIfInBounds_toArray, List.set_cons_zero, List.set_cons_succ]
    refine nextJ (w' := wE) 6 37 (.slice (some ⟨p2, 0, none⟩) 1 1) (by kernel_rfl) rfl rfl (by rfl) (by rw [hwE, hp2, HV.out]; exact exec_bsI4 _ n rfl (by rw [← HV.out]; rfl)) (SE) ?_
    try simp only [Act.put, List.setIfInBounds_toArray, List.set_cons_zero, List.set_cons_succ]
    refine nextJ (w' := wF) 7 38 (.slice a' (k + 1) c') (by kernel_rfl) rfl rfl (by rfl) (exec_app _ _ 86 86 rfl (.slice va k vc) (.slice (some ⟨p2, 0, none⟩) 1 1) rfl rfl 86 rfl hrun) (SF) ?_
    try simp only [Act.put, List.setIfInBounds_toArray, List.set_cons_zero, List.set_cons_succ]
    refine nextJ (w' := wF) 8 39 (.pointer (some ⟨b + 1, 0, none⟩)) (by kernel_rfl) rfl rfl (by rfl) (exec_nil _ _ rfl rfl) (SF) ?_
    try simp only [Act.put, List.setIfInBounds_toArray, List.set_cons_zero, List.set_cons_succ]
    refine nextJ (w' := wF) 9 40 (.pointer (some ⟨b + 1, 1, none⟩)) (by kernel_rfl) rfl rfl (by rfl) (exec_fieldO 88 _ 1 (b + 1) 0 1 rfl rfl (fun w => by kernel_rfl)) (SF) ?_
    try simp only [Act.put, List.setIfInBounds_toArray, List.set_cons_zero, List.set_cons_succ]
    refine storeJ (w' := wG) 10 (by kernel_rfl) rfl rfl (by rfl) (by rw [hwG]; exact exec_store1 86 s1Is _ _ rfl (b + 1) 1 rfl _ _ rfl cvF fvF rfl) ((fun e => by simp at e)) ?_
    try simp only [Act.put, List.setIfInBounds_toArray, List.set_cons_zero, List.set_cons_succ]
    refine doneJ (by kernel_rfl) ?_ _
    have ltF : b + 1 < wF.heap.size := Nat.lt_of_lt_of_le ltE hbF.size
    have p2w : w.heap.size ≤ p2 := by rw [hp2]; exact BB4.out.size
    have szF : wE.heap.size = p2 + 1 := by rw [hwE, hp2]; simp
    have mF : PmAt wF b M ck := ((H4.out.map.later bE).but hbF H4.out.nb)
    have mG : PmAt wG b M ck := mF.but bG (fun e => by have e : b = b + 1 := e; omega)
    obtain ⟨w6, hw6⟩ : ∃ w6, w6 = setBlock wG.drew b (.map ((M ++ [(⟨n, m, ck⟩ : Pt)]).map pent).toArray (ck + 1)) := ⟨_, rfl⟩
    have RUN : Hid ((Instr.mapUpdate 85 (.map (some b)) (.agg V.toArray) (.int .i64 m)).run Try.prog wG.drew = .ok () w6) := by rw [hw6, HV.out]; exact pupd_new (mG.later (later_drew _)) n m HFN.out
    have b6 : But (Only b) wG w6 := by rw [hw6]; exact ((But.refl (Only b) wG).drew).trans (But.block_ (K := Only b) rfl _)
    have ltG : b + 1 < wG.heap.size := Nat.lt_of_lt_of_le ltF bG.size
    have nbq : ¬ Only b (b + 1) := fun e => by have e : b + 1 = b := e; omega
    have c0G : wG.cell? ⟨b + 1, 0, none⟩ = some (.map (some b)) := by
      rw [hwG, setCell_out (by decide)]
      exact (hbF.cell (p := ⟨b + 1, 0, none⟩) ltE nob).trans ((bE.cell (p := ⟨b + 1, 0, none⟩) lt4).trans H4.out.c0)
    have sG : CellsAt wG s 0 V := csF.but (csF.lt (by rw [LV.out]; decide)) bG (fun e => ns (.inr (.inl e)))
    have c16 : w6.cell? ⟨b + 1, 1, none⟩ = some (.slice a' (k + 1) c') := (b6.cell (p := ⟨b + 1, 1, none⟩) ltG nbq).trans (by rw [hwG]; exact World.cell?_setCell_same _ _ _ cvF)
    have r6 : RowF 4 (fun g => O g ∨ (w.heap.size ≤ g ∧ g < w6.heap.size)) w6 (.slice a' (k + 1) c') (k + 1) (ipc (M ++ [⟨n, m, ck⟩])) := by
      have zz : wE.heap.size ≤ w6.heap.size := Nat.le_trans hbF.size (Nat.le_trans bG.size b6.size)
      have rG := rF.but bG (fun g e e2 => by
        have e2 : g = b + 1 := e2
        rcases e with e | e
        · exact nob (e2 ▸ e)
        · omega)
      have r := rG.but b6 (fun g e e2 => by
        have e2 : g = b := e2
        rcases e with e | e
        · exact H4.out.nb (e2 ▸ e)
        · omega)
      refine (r.own (fun g hg e => ?_)).cong (fun j hj => ?_)
      · rcases e with e | e
        · exact .inl e
        · refine .inr ⟨?_, hg⟩
          have := BB4.out.size
          have := bE.size
          omega
      · rw [ipc_app M _ j (by rw [← HK.out]; omega), ← HK.out, HV.out]
    have P6 : Hid (PsAt w6 b (fun g => O g ∨ (w.heap.size ≤ g ∧ g < w6.heap.size)) (M ++ [⟨n, m, ck⟩]) (ck + 1)) := by
      refine ⟨(b6.cell (p := ⟨b + 1, 0, none⟩) ltG nbq).trans c0G, fun y => (b6.frozen (p := ⟨b + 1, y, none⟩) ltG nbq).trans (by rw [hwG, World.frozen?_setCell]; exact (hbF.frozen (p := ⟨b + 1, y, none⟩) ltE nob).trans ((H4.out.later bE).fz y)), by rw [hw6]; exact (mG.later (later_drew _)).set _ _, ⟨_, c16, by rw [List.length_append, ← HK.out]; exact r6⟩, fun e => ?_, fun e => ?_⟩
      · rcases e with e | e
        · exact H4.out.nb e
        · omega
      · rcases e with e | e
        · exact nob e
        · omega
    have B6 : Hid (But (PsK b O) w w6) := (((BB4.out.trans (But.of_below bE)).trans (hbF.mono (fun g e => .inr (.inr e)))).trans (bG.mono (fun g e => .inr (.inl e)))).trans (b6.mono (fun g e => .inl e))
    have Sd7 : wG.drew.cell? ⟨b + 1, 0, none⟩ = some (.map (some b)) ∧ CellsAt wG.drew s 0 V := ⟨c0G, sG⟩
    have S7 : w6.cell? ⟨b + 1, 0, none⟩ = some (.map (some b)) ∧ CellsAt w6 s 0 V := ⟨(b6.cell (p := ⟨b + 1, 0, none⟩) ltG nbq).trans c0G, sG.but (sG.lt (by rw [LV.out]; decide)) b6 (fun e => ns (.inl e))⟩
    clear hwE hwG hrun rF hbF bG Sd SE SF cvE fvE cvF fvF csE csF cE bE mF mG hw6 b6 c0G sG c16 r6
    go_upto_region 7 with fail
    refine wp_region_held (S := fun W => W.cell? ⟨b + 1, 0, none⟩ = some (.map (some b)) ∧ CellsAt W s 0 V) (by kernel_rfl) ?_
    refine takeD (i := 0) (v := .pointer (some ⟨b + 1, 0, none⟩)) 41 rfl rfl (by kernel_rfl) (by kernel_rfl) (by kernel_rfl) (fun _ _ _ h => h) (.inl ⟨by rfl, fun W hW => exec_move _ _ rfl rfl⟩) (Sd7) ?_
    try simp only [Act.put, List.setIfInBounds_toArray, List.set_cons_zero, List.set_cons_succ]
    refine takeD (i := 1) (v := .pointer (some ⟨b + 1, 0, none⟩)) 42 rfl rfl (by kernel_rfl) (by kernel_rfl) (by kernel_rfl) (fun _ _ _ h => h) (.inl ⟨by rfl, fun W hW => exec_nil _ _ rfl rfl⟩) (Sd7) ?_
    try simp only [Act.put, List.setIfInBounds_toArray, List.set_cons_zero, List.set_cons_succ]
    refine takeD (i := 2) (v := .pointer (some ⟨b + 1, 0, none⟩)) 43 rfl rfl (by kernel_rfl) (by kernel_rfl) (by kernel_rfl) (fun _ _ _ h => h) (.inl ⟨by rfl, fun W hW => exec_fieldO 88 _ 0 (b + 1) 0 0 rfl rfl (fun w => by kernel_rfl)⟩) (Sd7) ?_
    try simp only [Act.put, List.setIfInBounds_toArray, List.set_cons_zero, List.set_cons_succ]
    refine takeD (i := 3) (v := .map (some b)) 44 rfl rfl (by kernel_rfl) (by kernel_rfl) (by kernel_rfl) (fun _ _ _ h => h) (.inl ⟨by rfl, fun W hW => exec_load1 85 onePm _ rfl (b + 1) 0 rfl (.map (some b)) (hW.1)⟩) (Sd7) ?_
    try simp only [Act.put, List.setIfInBounds_toArray, List.set_cons_zero, List.set_cons_succ]
    refine takeD (i := 4) (v := .agg V.toArray) 45 rfl rfl (by kernel_rfl) (by kernel_rfl) (by kernel_rfl) (fun _ _ _ h => h) (.inl ⟨by rfl, fun W hW => exec_loadA 35 4 aggI sizI _ rfl s 0 rfl V LV.out hW.2⟩) (Sd7) ?_
    try simp only [Act.put, List.setIfInBounds_toArray, List.set_cons_zero, List.set_cons_succ]
    refine takeD (i := 5) (v := .int .i64 m) 46 rfl rfl (by kernel_rfl) (by kernel_rfl) (by kernel_rfl) (fun _ _ _ h => h) (.inl ⟨by rfl, fun W hW => exec_move _ _ rfl rfl⟩) (Sd7) ?_
    try simp only [Act.put, List.setIfInBounds_toArray, List.set_cons_zero, List.set_cons_succ]
    refine storeD (w' := w6) 6 (by kernel_rfl) rfl rfl (by rfl) (exec_upd _ _ _ _ _ _ _ _ rfl rfl rfl rfl RUN.out) (S7) ?_
    try simp only [Act.put, List.setIfInBounds_toArray, List.set_cons_zero, List.set_cons_succ]
    refine wpAnyH_done (by kernel_rfl) ?_ _
    clear Sd7 S7
    go_wp2
    go_ret
    exact ⟨rfl, ⟨ck + 1, by have h := P6.out; rw [← EL.out] at h; simpa using h⟩, B6.out⟩
end Go.Proofs.Yteiendigcaedhaa
