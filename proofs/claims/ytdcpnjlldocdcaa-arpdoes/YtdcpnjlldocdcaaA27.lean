
/-
  Package arp: the contract of Heard.
-/
import Derived.Test.YtdcpnjlldocdcaaA26
import Derived.Deep.DeepCutAuto
namespace Go.Proofs.Ytdcpnjlldocdcaa
open Go.RowKit Go.Shelf

/-- what Heard leaves and tells -/
def HdEnd (ρ : Nat → Role) (k : Nat) (W : World) (b : Nat) (m : M6) (i : I4) (a : Ar) (r : HdR) (e : Ending) (w' : World) : Prop :=
  ∃ ρ' av gv, e = .returned (.tuple #[av, gv, r.mac.val]) ∧ Ca ρ' k w' b m i r.L ∧ Fit ρ' w' ∧ Mv k ρ ρ' W w' ∧ RowN (Free ρ ρ' k W) w' gv r.may ∧ RowF 21 (Free ρ ρ' k W) w' av (if r.ans then 1 else 0) (fun _ => Ar.vals ⟨true, m, i, a.sm, a.si⟩)
theorem results_3 {fn : Func} {p a b : Tmp} {T : TypeId} (h : fn.results = #[.tmp a, .tmp b, .cell p T]) (tmps : Array Value) (w : World) (s : Nat) (v va vb : Value) (hp : tmps.getD p undef = .pointer (some ⟨s, 0, none⟩)) (ha : tmps.getD a undef = va) (hb : tmps.getD b undef = vb) (hL : (loadVar T ⟨s, 0, none⟩).run Try.prog w = .ok v w) : (results fn tmps).run Try.prog w = .ok (.tuple #[va, vb, v]) w := by
  have hp' : (asAddr (tmps.getD p undef)).run Try.prog w = .ok ⟨s, 0, none⟩ w := by rw [hp]; rfl
  have hp2 : (asAddr (tmps[p]?.getD undef)).run Try.prog w = .ok ⟨s, 0, none⟩ w := by simpa using hp'
  have ha' : tmps[a]?.getD undef = va := by simpa using ha
  have hb' : tmps[b]?.getD undef = vb := by simpa using hb
  simp only [results, h]
  simp [Sem.run_bind, Result.andThen, hp2, hL, ha', hb']
theorem HdEnd.fin {ρ ρ' : Nat → Role} {k : Nat} {W w wz : World} {b : Nat} {m : M6} {i : I4} {a : Ar} {r : HdR} {gv av : Value} (hc : Ca ρ' k w b m i r.L) (hF : Fit ρ' w) (hm : Mv k ρ ρ' W w) (t : Nat) (hW : W.heap.size ≤ t) (ht : ρ' t = (0, 0, 0)) (bo : But (Only t) w wz) (hg : RowN (Free ρ ρ' k W) wz gv r.may) (ha : RowF 21 (Free ρ ρ' k W) wz av (if r.ans then 1 else 0) (fun _ => Ar.vals ⟨true, m, i, a.sm, a.si⟩)) :
    HdEnd ρ k W b m i a r (.returned (.tuple #[av, gv, r.mac.val])) wz := by
  refine ⟨ρ', av, gv, rfl, hc.but bo (fun g e e2 => ?_), hF.below bo.size, ⟨hm.keep, hm.but.trans' bo (fun g hg e => ?_)⟩, hg, ha⟩
  · have e2 : g = t := e2
    rw [e2, ht] at e
    have := hc.pos
    have e : 0 = k := e
    omega
  · have e : g = t := e
    omega
section
variable {o : Oper} {w : World} {ev : Operand → Value}
theorem exec_eqI (x y : Operand) (t : TypeId) (p q : I4) (r : Bool) (ho : o.op = .binOp .eql 25 x y t) (hx : ev x = .agg p.vals.toArray) (hy : ev y = .agg q.vals.toArray) (hr : eqI p q = r) : (execOp ev o).run Try.prog w = .ok (.value (.bool r)) w := by
  subst hr
  have EM := eq_ip
  unfold execOp
  simp [ho, hx, hy, go_sem, I4.vals, EM]
theorem exec_zI (ho : o.op = .build 25 #[]) : (execOp ev o).run Try.prog w = .ok (.value (.agg zI.vals.toArray)) w := by
  unfold execOp
  rw [ho]
  kernel_rfl
end
/-- the parts of a request in memory -/
theorem ar_parts {W : World} {s : Nat} {a : Ar} (h : CellsAt W s 0 a.vals) : CellsAt W s 1 a.sm.vals ∧ CellsAt W s 7 a.si.vals ∧ CellsAt W s 11 a.dm.vals ∧ CellsAt W s 17 a.di.vals := by
  have h1 : CellsAt W s 0 ([.bool a.ans] ++ (a.sm.vals ++ (a.si.vals ++ (a.dm.vals ++ a.di.vals)))) := h
  have h2 := (CellsAt.append.1 h1).2
  have h3 := CellsAt.append.1 h2
  have h4 := CellsAt.append.1 h3.2
  have h5 := CellsAt.append.1 h4.2
  exact ⟨h3.1, h4.1, h5.1, h5.2⟩
theorem hd_facts {ip : I4} {a : Ar} {now : Int} {L : List Nb} (h : ¬ (eqI a.si ip = true ∨ eqI a.si zI = true)) : (hd ip a now L).ans = (!a.ans && eqI a.di ip) ∧ (hd ip a now L).mac = if (hd ip a now L).may = [] then zM else a.sm := by
  unfold hd
  rw [if_neg h]
  cases hf : fndI a.si L with
  | none => simp
  | some k =>
    obtain ⟨x, hx, _⟩ := fndI_spec hf
    simp [hx]
/-- after the neighbour has been seen to -/
def HMid (ρ : Nat → Role) (k : Nat) (W : World) (b : Nat) (m : M6) (i : I4) (a : Ar) (r : HdR) (s : Nat) (v : Value) (w : World) : Prop :=
  ∃ ρ', (∃ x n c, v = .slice x n c) ∧ Ca ρ' k w b m i r.L ∧ Fit ρ' w ∧ Mv k ρ ρ' W w ∧ RowN (fun g => Free ρ ρ' k W g ∧ g ≠ s + 1) w v r.may ∧ CellsAt w s 0 a.vals ∧ CellsAt w (s + 1) 0 zM.vals ∧ (∀ j, w.frozen? ⟨s + 1, j, none⟩ = false) ∧ ρ' (s + 1) = (0, 0, 0) ∧ s + 2 ≤ w.heap.size
/-- what is to be answered -/
def HTail (q : Ar) (r : HdR) (wc : World) (v : Value) (w : World) : Prop :=
  (∃ x n c, v = .slice x n c) ∧ Below wc.heap.size wc w ∧ RowF 21 (fun g => wc.heap.size ≤ g) w v (if r.ans then 1 else 0) (fun _ => q.vals)
section
variable {ρ : Nat → Role} {k : Nat} {W : World} {b : Nat} {m : M6} {i : I4} {lv : Value} {Lt : List (Nat × Nb)} {L : List Nb}
set_option maxRecDepth 100000 in
set_option maxHeartbeats 4000000 in
theorem heard_any (h : CAt ρ k W b m i lv Lt) (hF : Fit ρ W) (now : Int) (hok : LOk now (Lt.map Prod.snd)) (a : Ar) :
    Calls Try.prog 20 #[.pointer (some ⟨b, 0, none⟩), a.val, .int .i64 now] W (HdEnd ρ k W b m i a (hd i a now (Lt.map Prod.snd))) := by
  have hlen : Lt.length ≤ 8 := by have := hok.len; simpa using this
  obtain ⟨s, hs⟩ : ∃ s, s = W.heap.size := ⟨_, rfl⟩
  obtain ⟨w1, hw1⟩ : ∃ w1, w1 = (W.alloc (.cells a.vals.toArray 27)).alloc (.cells #[.int .u8 0, .int .u8 0, .int .u8 0, .int .u8 0, .int .u8 0, .int .u8 0] 23) := ⟨_, rfl⟩
  have hb1 : Below W.heap.size W w1 := by rw [hw1]; exact ((Below.refl _ W).alloc (Nat.le_refl _) _).alloc (by simp) _
  have sz1 : w1.heap.size = s + 2 := by rw [hw1]; simp [hs]
  have ca1 : CellsAt w1 s 0 a.vals := by
    rw [hw1, hs]
    exact (CellsAt.new W a.vals 27).but (by simp) ((But.refl (fun _ => False) _).alloc _) id
  have cm1 : CellsAt w1 (s + 1) 0 zM.vals := by
    have := CellsAt.new (W.alloc (.cells a.vals.toArray 27)) zM.vals 23
    rw [World.size_alloc, ← hs] at this
    rw [hw1]; exact this
  have fm1 : ∀ j, w1.frozen? ⟨s + 1, j, none⟩ = false := fun j => by
    have := frozen_new (W.alloc (.cells a.vals.toArray 27)) #[.int .u8 0, .int .u8 0, .int .u8 0, .int .u8 0, .int .u8 0, .int .u8 0] 23 j
    rw [World.size_alloc, ← hs] at this
    rw [hw1]; exact this
  have H1 := hide (h.later hb1)
  have F1 := hide (hF.below hb1.size)
  have HB1 := hide hb1
  have CA := hide ca1
  have CM := hide cm1
  have FM := hide fm1
  have SZ := hide sz1
  have HS := hide hs
  have HOK := hide hok
  have HF0 := hide hF
  have k0 := h.pos
  have RS : Hid (ρ s = (0, 0, 0) ∧ ρ (s + 1) = (0, 0, 0)) := ⟨hF s (by omega), hF (s + 1) (by omega)⟩
  clear hb1 ca1 cm1 fm1 sz1 hF
  rw [show a.val = .agg a.vals.toArray from rfl]
  go_enter Try.func20, Try.ntmps20
  have hw1' := hw1.symm
  have hs' := hs.symm
  clear hw1 hs
  have la : a.vals.length = 21 := rfl
  go_wp2_with fail
  clear hw1' hs'
  obtain ⟨wd, hwd⟩ : ∃ wd, wd = w1.drew := ⟨_, rfl⟩
  have bd : Below w1.heap.size w1 wd := by rw [hwd]; exact (Below.refl _ w1).drew
  have szd : wd.heap.size = s + 2 := by rw [hwd]; exact SZ.out
  have z1 := SZ.out
  have Hd := hide (H1.out.later bd)
  have Fd := hide (F1.out.below bd.size)
  have HBd : Hid (Below W.heap.size W wd) := HB1.out.trans (bd.mono HB1.out.size)
  have CAd := hide (CA.out.later (by omega) bd)
  have CMd := hide (CM.out.later (by omega) bd)
  have FMd : Hid (∀ j, wd.frozen? ⟨s + 1, j, none⟩ = false) := fun j => (bd.frozen (p := ⟨s + 1, j, none⟩) (by show s + 1 < _; omega)).trans (FM.out j)
  have SZd := hide szd
  have Sd : CellsAt wd s 7 a.si.vals ∧ CellsAt wd b 6 i.vals := ⟨(ar_parts CAd.out).2.1, (CellsAt.append.1 Hd.out.host).2⟩
  clear H1 F1 HB1 CA CM FM SZ bd szd z1
  refine region_out (fun W' => CellsAt W' s 7 a.si.vals ∧ CellsAt W' b 6 i.vals) (by kernel_rfl) ?_
  rw [← hwd]
  clear hwd
  cases eo : eqI a.si i with
  | true =>
    refine takeD (i := 0) (v := .pointer (some ⟨s, 7, none⟩)) 13 rfl rfl (by kernel_rfl) (by kernel_rfl) (by kernel_rfl) (fun _ _ _ h => h) (.inl ⟨by rfl, fun W hW => exec_fieldO 27 _ 2 s 0 7 rfl rfl (fun w => by kernel_rfl)⟩) (Sd) ?_
    try simp only [Act.put, List.setIfInBounds_toArray, List.set_cons_zero, List.set_cons_succ]
    refine takeD (i := 1) (v := .agg (a.si.vals).toArray) 14 rfl rfl (by kernel_rfl) (by kernel_rfl) (by kernel_rfl) (fun _ _ _ h => h) (.inl ⟨by rfl, fun W hW => exec_loadA 25 4 aggI sizI _ rfl s 7 rfl (a.si.vals) rfl (hW.1)⟩) (Sd) ?_
    try simp only [Act.put, List.setIfInBounds_toArray, List.set_cons_zero, List.set_cons_succ]
    refine takeD (i := 2) (v := .pointer (some ⟨b, 0, none⟩)) 15 rfl rfl (by kernel_rfl) (by kernel_rfl) (by kernel_rfl) (fun _ _ _ h => h) (.inl ⟨by rfl, fun W hW => exec_move _ _ rfl rfl⟩) (Sd) ?_
    try simp only [Act.put, List.setIfInBounds_toArray, List.set_cons_zero, List.set_cons_succ]
    refine takeD (i := 3) (v := .pointer (some ⟨b, 0, none⟩)) 16 rfl rfl (by kernel_rfl) (by kernel_rfl) (by kernel_rfl) (fun _ _ _ h => h) (.inl ⟨by rfl, fun W hW => exec_nil _ _ rfl rfl⟩) (Sd) ?_
    try simp only [Act.put, List.setIfInBounds_toArray, List.set_cons_zero, List.set_cons_succ]
    refine takeD (i := 4) (v := .pointer (some ⟨b, 6, none⟩)) 17 rfl rfl (by kernel_rfl) (by kernel_rfl) (by kernel_rfl) (fun _ _ _ h => h) (.inl ⟨by rfl, fun W hW => exec_fieldO 75 _ 1 b 0 6 rfl rfl (fun w => by kernel_rfl)⟩) (Sd) ?_
    try simp only [Act.put, List.setIfInBounds_toArray, List.set_cons_zero, List.set_cons_succ]
    refine takeD (i := 5) (v := .agg (i.vals).toArray) 18 rfl rfl (by kernel_rfl) (by kernel_rfl) (by kernel_rfl) (fun _ _ _ h => h) (.inl ⟨by rfl, fun W hW => exec_loadA 25 4 aggI sizI _ rfl b 6 rfl (i.vals) rfl (hW.2)⟩) (Sd) ?_
    try simp only [Act.put, List.setIfInBounds_toArray, List.set_cons_zero, List.set_cons_succ]
    refine takeD (i := 6) (v := .bool true) 19 rfl rfl (by kernel_rfl) (by kernel_rfl) (by kernel_rfl) (fun _ _ _ h => h) (.inl ⟨by rfl, fun W hW => exec_eqI _ _ _ a.si i _ rfl rfl rfl eo⟩) (Sd) ?_
    try simp only [Act.put, List.setIfInBounds_toArray, List.set_cons_zero, List.set_cons_succ]
    refine takeD (i := 7) (v := .bool true) 20 rfl rfl (by kernel_rfl) (by kernel_rfl) (by kernel_rfl) (fun _ _ _ h => h) (.inl ⟨by rfl, fun W hW => exec_move _ _ rfl rfl⟩) (Sd) ?_
    try simp only [Act.put, List.setIfInBounds_toArray, List.set_cons_zero, List.set_cons_succ]
    refine takeD (i := 8) (v := undef) 21 rfl rfl (by kernel_rfl) (by kernel_rfl) (by kernel_rfl) (fun _ _ _ h => h) (.inr ⟨by rfl, rfl⟩) (Sd) ?_
    try simp only [Act.put, List.setIfInBounds_toArray, List.set_cons_zero, List.set_cons_succ]
    refine takeD (i := 9) (v := undef) 22 rfl rfl (by kernel_rfl) (by kernel_rfl) (by kernel_rfl) (fun _ _ _ h => h) (.inr ⟨by rfl, rfl⟩) (Sd) ?_
    try simp only [Act.put, List.setIfInBounds_toArray, List.set_cons_zero, List.set_cons_succ]
    refine takeD (i := 10) (v := undef) 23 rfl rfl (by kernel_rfl) (by kernel_rfl) (by kernel_rfl) (fun _ _ _ h => h) (.inr ⟨by rfl, rfl⟩) (Sd) ?_
    try simp only [Act.put, List.setIfInBounds_toArray, List.set_cons_zero, List.set_cons_succ]
    refine takeD (i := 11) (v := undef) 24 rfl rfl (by kernel_rfl) (by kernel_rfl) (by kernel_rfl) (fun _ _ _ h => h) (.inr ⟨by rfl, rfl⟩) (Sd) ?_
    try simp only [Act.put, List.setIfInBounds_toArray, List.set_cons_zero, List.set_cons_succ]
    refine takeD (i := 12) (v := .bool true) 25 rfl rfl (by kernel_rfl) (by kernel_rfl) (by kernel_rfl) (fun _ _ _ h => h) (.inl ⟨by rfl, fun W hW => exec_pick _ _ _ true _ rfl rfl rfl⟩) (Sd) ?_
    try simp only [Act.put, List.setIfInBounds_toArray, List.set_cons_zero, List.set_cons_succ]
    refine wpAnyH_done (by kernel_rfl) ?_ _
    clear Sd
    have EH : Hid (hd i a now (Lt.map Prod.snd) = ⟨false, [], zM, Lt.map Prod.snd⟩) := by unfold Hid hd; rw [if_pos (by first | exact .inl eo | exact .inr ez)]
    have FIN : Hid (HdEnd ρ k W b m i a (hd i a now (Lt.map Prod.snd)) (.returned (.tuple #[.slice none 0 0, .slice none 0 0, zM.val])) (wd.setCells (s + 1) 0 zM.vals)) := by
      unfold Hid
      rw [EH.out]
      exact HdEnd.fin (r := ⟨false, [], zM, Lt.map Prod.snd⟩) ⟨_, _, rfl, Hd.out⟩ Fd.out (Mv.below HBd.out) (s + 1) (by have := HS.out; omega) RS.out.2 (But.cells (s + 1) zM.vals 0 wd) (RowN.nil _ _) (RowF.nil _ _ _ _)
    have LV := hide (run_loadVarA 23 6 aggM sizM (s + 1) 0 zM.vals rfl (CMd.out.stored rfl))
    have z0 := CMd.out 0 _ rfl
    have z1 := CMd.out 1 _ rfl
    have z2 := CMd.out 2 _ rfl
    have z3 := CMd.out 3 _ rfl
    have z4 := CMd.out 4 _ rfl
    have z5 := CMd.out 5 _ rfl
    simp only [Nat.zero_add] at z0 z1 z2 z3 z4 z5
    have zf := FMd.out
    go_wp2
    refine bodyPost_ret (v := .tuple #[.slice none 0 0, .slice none 0 0, zM.val]) ?_ rfl FIN.out
    exact results_3 rfl _ _ (s + 1) _ _ _ rfl rfl rfl LV.out
  | false =>
    cases ez : eqI a.si zI with
    | true =>
      refine takeD (i := 0) (v := .pointer (some ⟨s, 7, none⟩)) 13 rfl rfl (by kernel_rfl) (by kernel_rfl) (by kernel_rfl) (fun _ _ _ h => h) (.inl ⟨by rfl, fun W hW => exec_fieldO 27 _ 2 s 0 7 rfl rfl (fun w => by kernel_rfl)⟩) (Sd) ?_
      try simp only [Act.put, List.setIfInBounds_toArray, List.set_cons_zero, List.set_cons_succ]
      refine takeD (i := 1) (v := .agg (a.si.vals).toArray) 14 rfl rfl (by kernel_rfl) (by kernel_rfl) (by kernel_rfl) (fun _ _ _ h => h) (.inl ⟨by rfl, fun W hW => exec_loadA 25 4 aggI sizI _ rfl s 7 rfl (a.si.vals) rfl (hW.1)⟩) (Sd) ?_
      try simp only [Act.put, List.setIfInBounds_toArray, List.set_cons_zero, List.set_cons_succ]
      refine takeD (i := 2) (v := .pointer (some ⟨b, 0, none⟩)) 15 rfl rfl (by kernel_rfl) (by kernel_rfl) (by kernel_rfl) (fun _ _ _ h => h) (.inl ⟨by rfl, fun W hW => exec_move _ _ rfl rfl⟩) (Sd) ?_
      try simp only [Act.put, List.setIfInBounds_toArray, List.set_cons_zero, List.set_cons_succ]
      refine takeD (i := 3) (v := .pointer (some ⟨b, 0, none⟩)) 16 rfl rfl (by kernel_rfl) (by kernel_rfl) (by kernel_rfl) (fun _ _ _ h => h) (.inl ⟨by rfl, fun W hW => exec_nil _ _ rfl rfl⟩) (Sd) ?_
      try simp only [Act.put, List.setIfInBounds_toArray, List.set_cons_zero, List.set_cons_succ]
      refine takeD (i := 4) (v := .pointer (some ⟨b, 6, none⟩)) 17 rfl rfl (by kernel_rfl) (by kernel_rfl) (by kernel_rfl) (fun _ _ _ h => h) (.inl ⟨by rfl, fun W hW => exec_fieldO 75 _ 1 b 0 6 rfl rfl (fun w => by kernel_rfl)⟩) (Sd) ?_
      try simp only [Act.put, List.setIfInBounds_toArray, List.set_cons_zero, List.set_cons_succ]
      refine takeD (i := 5) (v := .agg (i.vals).toArray) 18 rfl rfl (by kernel_rfl) (by kernel_rfl) (by kernel_rfl) (fun _ _ _ h => h) (.inl ⟨by rfl, fun W hW => exec_loadA 25 4 aggI sizI _ rfl b 6 rfl (i.vals) rfl (hW.2)⟩) (Sd) ?_
      try simp only [Act.put, List.setIfInBounds_toArray, List.set_cons_zero, List.set_cons_succ]
      refine takeD (i := 6) (v := .bool false) 19 rfl rfl (by kernel_rfl) (by kernel_rfl) (by kernel_rfl) (fun _ _ _ h => h) (.inl ⟨by rfl, fun W hW => exec_eqI _ _ _ a.si i _ rfl rfl rfl eo⟩) (Sd) ?_
      try simp only [Act.put, List.setIfInBounds_toArray, List.set_cons_zero, List.set_cons_succ]
      refine takeD (i := 7) (v := .bool false) 20 rfl rfl (by kernel_rfl) (by kernel_rfl) (by kernel_rfl) (fun _ _ _ h => h) (.inl ⟨by rfl, fun W hW => exec_move _ _ rfl rfl⟩) (Sd) ?_
      try simp only [Act.put, List.setIfInBounds_toArray, List.set_cons_zero, List.set_cons_succ]
      refine takeD (i := 8) (v := .pointer (some ⟨s, 7, none⟩)) 21 rfl rfl (by kernel_rfl) (by kernel_rfl) (by kernel_rfl) (fun _ _ _ h => h) (.inl ⟨by rfl, fun W hW => exec_fieldO 27 _ 2 s 0 7 rfl rfl (fun w => by kernel_rfl)⟩) (Sd) ?_
      try simp only [Act.put, List.setIfInBounds_toArray, List.set_cons_zero, List.set_cons_succ]
      refine takeD (i := 9) (v := .agg (a.si.vals).toArray) 22 rfl rfl (by kernel_rfl) (by kernel_rfl) (by kernel_rfl) (fun _ _ _ h => h) (.inl ⟨by rfl, fun W hW => exec_loadA 25 4 aggI sizI _ rfl s 7 rfl (a.si.vals) rfl (hW.1)⟩) (Sd) ?_
      try simp only [Act.put, List.setIfInBounds_toArray, List.set_cons_zero, List.set_cons_succ]
      refine takeD (i := 10) (v := .agg zI.vals.toArray) 23 rfl rfl (by kernel_rfl) (by kernel_rfl) (by kernel_rfl) (fun _ _ _ h => h) (.inl ⟨by rfl, fun W hW => exec_zI rfl⟩) (Sd) ?_
      try simp only [Act.put, List.setIfInBounds_toArray, List.set_cons_zero, List.set_cons_succ]
      refine takeD (i := 11) (v := .bool true) 24 rfl rfl (by kernel_rfl) (by kernel_rfl) (by kernel_rfl) (fun _ _ _ h => h) (.inl ⟨by rfl, fun W hW => exec_eqI _ _ _ a.si zI _ rfl rfl rfl ez⟩) (Sd) ?_
      try simp only [Act.put, List.setIfInBounds_toArray, List.set_cons_zero, List.set_cons_succ]
      refine takeD (i := 12) (v := .bool true) 25 rfl rfl (by kernel_rfl) (by kernel_rfl) (by kernel_rfl) (fun _ _ _ h => h) (.inl ⟨by rfl, fun W hW => exec_pick _ _ _ false _ rfl rfl rfl⟩) (Sd) ?_
      try simp only [Act.put, List.setIfInBounds_toArray, List.set_cons_zero, List.set_cons_succ]
      refine wpAnyH_done (by kernel_rfl) ?_ _
      clear Sd
      have EH : Hid (hd i a now (Lt.map Prod.snd) = ⟨false, [], zM, Lt.map Prod.snd⟩) := by unfold Hid hd; rw [if_pos (by first | exact .inl eo | exact .inr ez)]
      have FIN : Hid (HdEnd ρ k W b m i a (hd i a now (Lt.map Prod.snd)) (.returned (.tuple #[.slice none 0 0, .slice none 0 0, zM.val])) (wd.setCells (s + 1) 0 zM.vals)) := by
        unfold Hid
        rw [EH.out]
        exact HdEnd.fin (r := ⟨false, [], zM, Lt.map Prod.snd⟩) ⟨_, _, rfl, Hd.out⟩ Fd.out (Mv.below HBd.out) (s + 1) (by have := HS.out; omega) RS.out.2 (But.cells (s + 1) zM.vals 0 wd) (RowN.nil _ _) (RowF.nil _ _ _ _)
      have LV := hide (run_loadVarA 23 6 aggM sizM (s + 1) 0 zM.vals rfl (CMd.out.stored rfl))
      have z0 := CMd.out 0 _ rfl
      have z1 := CMd.out 1 _ rfl
      have z2 := CMd.out 2 _ rfl
      have z3 := CMd.out 3 _ rfl
      have z4 := CMd.out 4 _ rfl
      have z5 := CMd.out 5 _ rfl
      simp only [Nat.zero_add] at z0 z1 z2 z3 z4 z5
      have zf := FMd.out
      go_wp2
      refine bodyPost_ret (v := .tuple #[.slice none 0 0, .slice none 0 0, zM.val]) ?_ rfl FIN.out
      exact results_3 rfl _ _ (s + 1) _ _ _ rfl rfl rfl LV.out
    | false =>
      refine takeD (i := 0) (v := .pointer (some ⟨s, 7, none⟩)) 13 rfl rfl (by kernel_rfl) (by kernel_rfl) (by kernel_rfl) (fun _ _ _ h => h) (.inl ⟨by rfl, fun W hW => exec_fieldO 27 _ 2 s 0 7 rfl rfl (fun w => by kernel_rfl)⟩) (Sd) ?_
      try simp only [Act.put, List.setIfInBounds_toArray, List.set_cons_zero, List.set_cons_succ]
      refine takeD (i := 1) (v := .agg (a.si.vals).toArray) 14 rfl rfl (by kernel_rfl) (by kernel_rfl) (by kernel_rfl) (fun _ _ _ h => h) (.inl ⟨by rfl, fun W hW => exec_loadA 25 4 aggI sizI _ rfl s 7 rfl (a.si.vals) rfl (hW.1)⟩) (Sd) ?_
      try simp only [Act.put, List.setIfInBounds_toArray, List.set_cons_zero, List.set_cons_succ]
      refine takeD (i := 2) (v := .pointer (some ⟨b, 0, none⟩)) 15 rfl rfl (by kernel_rfl) (by kernel_rfl) (by kernel_rfl) (fun _ _ _ h => h) (.inl ⟨by rfl, fun W hW => exec_move _ _ rfl rfl⟩) (Sd) ?_
      try simp only [Act.put, List.setIfInBounds_toArray, List.set_cons_zero, List.set_cons_succ]
      refine takeD (i := 3) (v := .pointer (some ⟨b, 0, none⟩)) 16 rfl rfl (by kernel_rfl) (by kernel_rfl) (by kernel_rfl) (fun _ _ _ h => h) (.inl ⟨by rfl, fun W hW => exec_nil _ _ rfl rfl⟩) (Sd) ?_
      try simp only [Act.put, List.setIfInBounds_toArray, List.set_cons_zero, List.set_cons_succ]
      refine takeD (i := 4) (v := .pointer (some ⟨b, 6, none⟩)) 17 rfl rfl (by kernel_rfl) (by kernel_rfl) (by kernel_rfl) (fun _ _ _ h => h) (.inl ⟨by rfl, fun W hW => exec_fieldO 75 _ 1 b 0 6 rfl rfl (fun w => by kernel_rfl)⟩) (Sd) ?_
      try simp only [Act.put, List.setIfInBounds_toArray, List.set_cons_zero, List.set_cons_succ]
      refine takeD (i := 5) (v := .agg (i.vals).toArray) 18 rfl rfl (by kernel_rfl) (by kernel_rfl) (by kernel_rfl) (fun _ _ _ h => h) (.inl ⟨by rfl, fun W hW => exec_loadA 25 4 aggI sizI _ rfl b 6 rfl (i.vals) rfl (hW.2)⟩) (Sd) ?_
      try simp only [Act.put, List.setIfInBounds_toArray, List.set_cons_zero, List.set_cons_succ]
      refine takeD (i := 6) (v := .bool false) 19 rfl rfl (by kernel_rfl) (by kernel_rfl) (by kernel_rfl) (fun _ _ _ h => h) (.inl ⟨by rfl, fun W hW => exec_eqI _ _ _ a.si i _ rfl rfl rfl eo⟩) (Sd) ?_
      try simp only [Act.put, List.setIfInBounds_toArray, List.set_cons_zero, List.set_cons_succ]
      refine takeD (i := 7) (v := .bool false) 20 rfl rfl (by kernel_rfl) (by kernel_rfl) (by kernel_rfl) (fun _ _ _ h => h) (.inl ⟨by rfl, fun W hW => exec_move _ _ rfl rfl⟩) (Sd) ?_
      try simp only [Act.put, List.setIfInBounds_toArray, List.set_cons_zero, List.set_cons_succ]
      refine takeD (i := 8) (v := .pointer (some ⟨s, 7, none⟩)) 21 rfl rfl (by kernel_rfl) (by kernel_rfl) (by kernel_rfl) (fun _ _ _ h => h) (.inl ⟨by rfl, fun W hW => exec_fieldO 27 _ 2 s 0 7 rfl rfl (fun w => by kernel_rfl)⟩) (Sd) ?_
      try simp only [Act.put, List.setIfInBounds_toArray, List.set_cons_zero, List.set_cons_succ]
      refine takeD (i := 9) (v := .agg (a.si.vals).toArray) 22 rfl rfl (by kernel_rfl) (by kernel_rfl) (by kernel_rfl) (fun _ _ _ h => h) (.inl ⟨by rfl, fun W hW => exec_loadA 25 4 aggI sizI _ rfl s 7 rfl (a.si.vals) rfl (hW.1)⟩) (Sd) ?_
      try simp only [Act.put, List.setIfInBounds_toArray, List.set_cons_zero, List.set_cons_succ]
      refine takeD (i := 10) (v := .agg zI.vals.toArray) 23 rfl rfl (by kernel_rfl) (by kernel_rfl) (by kernel_rfl) (fun _ _ _ h => h) (.inl ⟨by rfl, fun W hW => exec_zI rfl⟩) (Sd) ?_
      try simp only [Act.put, List.setIfInBounds_toArray, List.set_cons_zero, List.set_cons_succ]
      refine takeD (i := 11) (v := .bool false) 24 rfl rfl (by kernel_rfl) (by kernel_rfl) (by kernel_rfl) (fun _ _ _ h => h) (.inl ⟨by rfl, fun W hW => exec_eqI _ _ _ a.si zI _ rfl rfl rfl ez⟩) (Sd) ?_
      try simp only [Act.put, List.setIfInBounds_toArray, List.set_cons_zero, List.set_cons_succ]
      refine takeD (i := 12) (v := .bool false) 25 rfl rfl (by kernel_rfl) (by kernel_rfl) (by kernel_rfl) (fun _ _ _ h => h) (.inl ⟨by rfl, fun W hW => exec_pick _ _ _ false _ rfl rfl rfl⟩) (Sd) ?_
      try simp only [Act.put, List.setIfInBounds_toArray, List.set_cons_zero, List.set_cons_succ]
      refine wpAnyH_done (by kernel_rfl) ?_ _
      clear Sd
      have NH : Hid (¬ (eqI a.si i = true ∨ eqI a.si zI = true)) := fun e => by rcases e with e | e <;> simp_all
      go_wp2_with fail
      obtain ⟨w2, hw2⟩ : ∃ w2, w2 = wd.drew := ⟨_, rfl⟩
      have bd : Below wd.heap.size wd w2 := by rw [hw2]; exact (Below.refl _ wd).drew
      have z1 := SZd.out
      have H2 := hide (Hd.out.later bd)
      have F2 := hide (Fd.out.below bd.size)
      have HB2 : Hid (Below W.heap.size W w2) := HBd.out.trans (bd.mono HBd.out.size)
      have CA2 := hide (CAd.out.later (by omega) bd)
      have CM2 := hide (CMd.out.later (by omega) bd)
      have FM2 : Hid (∀ j, w2.frozen? ⟨s + 1, j, none⟩ = false) := fun j => (bd.frozen (p := ⟨s + 1, j, none⟩) (by show s + 1 < _; omega)).trans (FMd.out j)
      have SZ2 : Hid (w2.heap.size = s + 2) := by unfold Hid; rw [hw2]; exact SZd.out
      have S2 : CellsAt w2 s 17 a.di.vals ∧ CellsAt w2 b 6 i.vals := ⟨(ar_parts CA2.out).2.2.2, (CellsAt.append.1 H2.out.host).2⟩
      obtain ⟨fh, hfh⟩ : ∃ fh, eqI a.di i = fh := ⟨_, rfl⟩
      clear Hd Fd HBd CAd CMd FMd SZd bd z1
      refine region_out (fun W' => CellsAt W' s 17 a.di.vals ∧ CellsAt W' b 6 i.vals) (by kernel_rfl) ?_
      rw [← hw2]
      clear hw2
      refine takeD (i := 0) (v := .pointer (some ⟨s, 17, none⟩)) 27 rfl rfl (by kernel_rfl) (by kernel_rfl) (by kernel_rfl) (fun _ _ _ h => h) (.inl ⟨by rfl, fun W hW => exec_fieldO 27 _ 4 s 0 17 rfl rfl (fun w => by kernel_rfl)⟩) (S2) ?_
      try simp only [Act.put, List.setIfInBounds_toArray, List.set_cons_zero, List.set_cons_succ]
      refine takeD (i := 1) (v := .agg (a.di.vals).toArray) 28 rfl rfl (by kernel_rfl) (by kernel_rfl) (by kernel_rfl) (fun _ _ _ h => h) (.inl ⟨by rfl, fun W hW => exec_loadA 25 4 aggI sizI _ rfl s 17 rfl (a.di.vals) rfl (hW.1)⟩) (S2) ?_
      try simp only [Act.put, List.setIfInBounds_toArray, List.set_cons_zero, List.set_cons_succ]
      refine takeD (i := 2) (v := .pointer (some ⟨b, 0, none⟩)) 29 rfl rfl (by kernel_rfl) (by kernel_rfl) (by kernel_rfl) (fun _ _ _ h => h) (.inl ⟨by rfl, fun W hW => exec_move _ _ rfl rfl⟩) (S2) ?_
      try simp only [Act.put, List.setIfInBounds_toArray, List.set_cons_zero, List.set_cons_succ]
      refine takeD (i := 3) (v := .pointer (some ⟨b, 0, none⟩)) 30 rfl rfl (by kernel_rfl) (by kernel_rfl) (by kernel_rfl) (fun _ _ _ h => h) (.inl ⟨by rfl, fun W hW => exec_nil _ _ rfl rfl⟩) (S2) ?_
      try simp only [Act.put, List.setIfInBounds_toArray, List.set_cons_zero, List.set_cons_succ]
      refine takeD (i := 4) (v := .pointer (some ⟨b, 6, none⟩)) 31 rfl rfl (by kernel_rfl) (by kernel_rfl) (by kernel_rfl) (fun _ _ _ h => h) (.inl ⟨by rfl, fun W hW => exec_fieldO 75 _ 1 b 0 6 rfl rfl (fun w => by kernel_rfl)⟩) (S2) ?_
      try simp only [Act.put, List.setIfInBounds_toArray, List.set_cons_zero, List.set_cons_succ]
      refine takeD (i := 5) (v := .agg (i.vals).toArray) 32 rfl rfl (by kernel_rfl) (by kernel_rfl) (by kernel_rfl) (fun _ _ _ h => h) (.inl ⟨by rfl, fun W hW => exec_loadA 25 4 aggI sizI _ rfl b 6 rfl (i.vals) rfl (hW.2)⟩) (S2) ?_
      try simp only [Act.put, List.setIfInBounds_toArray, List.set_cons_zero, List.set_cons_succ]
      refine takeD (i := 6) (v := .bool fh) 33 rfl rfl (by kernel_rfl) (by kernel_rfl) (by kernel_rfl) (fun _ _ _ h => h) (.inl ⟨by rfl, fun W hW => exec_eqI _ _ _ a.di i _ rfl rfl rfl hfh⟩) (S2) ?_
      try simp only [Act.put, List.setIfInBounds_toArray, List.set_cons_zero, List.set_cons_succ]
      refine takeD (i := 7) (v := .bool fh) 10 rfl rfl (by kernel_rfl) (by kernel_rfl) (by kernel_rfl) (fun _ _ _ h => h) (.inl ⟨by rfl, fun W hW => exec_assign _ _ rfl rfl⟩) (S2) ?_
      try simp only [Act.put, List.setIfInBounds_toArray, List.set_cons_zero, List.set_cons_succ]
      refine wpAnyH_done (by kernel_rfl) ?_ _
      clear S2
      have HFH := hide hfh
      obtain ⟨g, hg, NB⟩ := H2.out.neighbour (by omega) a.si
      have HNB := hide NB
      have HG := hide hg
      have pa := (ar_parts CA2.out).2.1
      have y0 := pa 0 _ rfl
      have y1 := pa 1 _ rfl
      have y2 := pa 2 _ rfl
      have y3 := pa 3 _ rfl
      simp only [Nat.reduceAdd] at y0 y1 y2 y3
      rw [show a.si.val = .agg #[.int .u8 a.si.a, .int .u8 a.si.b, .int .u8 a.si.c, .int .u8 a.si.d] from rfl] at HNB
      clear NB hg pa hfh eo ez
      go_wp2_with fail
      refine HNB.out.mono ?_
      rintro _ w3 ⟨rfl, hb3⟩
      clear y0 y1 y2 y3
      have z2 := SZ2.out
      have H3 := hide (H2.out.later hb3)
      have F3 := hide (F2.out.below hb3.size)
      have HB3 : Hid (Below W.heap.size W w3) := HB2.out.trans (hb3.mono HB2.out.size)
      have CA3 := hide (CA2.out.later (by omega) hb3)
      have CM3 := hide (CM2.out.later (by omega) hb3)
      have FM3 : Hid (∀ j, w3.frozen? ⟨s + 1, j, none⟩ = false) := fun j => (hb3.frozen (p := ⟨s + 1, j, none⟩) (by show s + 1 < _; omega)).trans (FM2.out j)
      have SZ3 : Hid (s + 2 ≤ w3.heap.size) := by have := hb3.size; unfold Hid; omega
      clear HNB H2 F2 HB2 CA2 CM2 FM2 SZ2 hb3 z2
      obtain ⟨r, hr⟩ : ∃ r, r = hd i a now (Lt.map Prod.snd) := ⟨_, rfl⟩
      go_upto_if 39 with fail
      go_cut [9, 11] (fun v9 v11 wc => v11 = v11 ∧ Hid (HMid ρ k W b m i a r s v9 wc))
      case first =>
        cases hf : fndI a.si (Lt.map Prod.snd) with
        | none =>
          simp only [Option.map_none]
          by_cases hadd : fh = true ∧ Lt.length < 8
          · obtain ⟨rfl, h8⟩ := hadd
            have ER : Hid (r = ⟨!a.ans && eqI a.di i, [], zM, Lt.map Prod.snd ++ [⟨a.si, 2, a.sm, now, now, 0, []⟩]⟩) := by
              unfold Hid
              rw [hr]
              unfold hd
              rw [if_neg NH.out, hf]
              simp only
              rw [if_pos ⟨HFH.out, by simpa using h8⟩]
            obtain ⟨la0, lc0, hlv⟩ : ∃ la0 lc0, lv = .slice la0 Lt.length lc0 := by
              obtain ⟨a0, c0, e0, _⟩ := H3.out.row
              exact ⟨a0, c0, e0⟩
            have cL : w3.cell? ⟨b, 10, none⟩ = some (.slice la0 Lt.length lc0) := by rw [← hlv]; exact H3.out.lst
            obtain ⟨n, hn⟩ : ∃ n, n = Lt.length := ⟨_, rfl⟩
            rw [← hn] at cL
            have n8 : (n : Int) < 8 := by omega
            have HN := hide hn
            have HLV := hide hlv
            clear hr hf hlv hn
            go_wp2_with fail
            clear cL
            obtain ⟨w4, hw4⟩ : ∃ w4, w4 = w3.drew := ⟨_, rfl⟩
            have b4 : Below w3.heap.size w3 w4 := by rw [hw4]; exact (Below.refl _ w3).drew
            have sz4 : w4.heap.size = w3.heap.size := by rw [hw4]; rfl
            obtain ⟨p, hp⟩ : ∃ p, p = w4.heap.size := ⟨_, rfl⟩
            obtain ⟨w6, hw6⟩ : ∃ w6, w6 = w4.alloc (.cells (Nb.cells ⟨a.si, 2, a.sm, now, now, 0, []⟩ (.slice none 0 0)).toArray 66) := ⟨_, rfl⟩
            have sz6 : w6.heap.size = p + 1 := by rw [hw6]; simp [hp]
            have b6 : Below w3.heap.size w3 w6 := by rw [hw6]; exact b4.alloc (by omega) _
            have c6 : CellsAt w6 p 0 (Nb.cells ⟨a.si, 2, a.sm, now, now, 0, []⟩ (.slice none 0 0)) := by rw [hw6, hp]; exact CellsAt.new w4 _ 66
            obtain ⟨a7, c7, w7, hrun, b7, l7, f7, ρ', t, h7, F7, M7, kp⟩ := H3.out.add F3.out (by omega) ⟨a.si, 2, a.sm, now, now, 0, []⟩ (.slice none 0 0) b6 p p c6 (RowN.nil _ _) (fun _ => rfl) (by omega) (by omega)
            rw [← HN.out] at hrun h7 M7
            obtain ⟨w8, hw8⟩ : ∃ w8, w8 = w7.setCell ⟨b, 10, none⟩ (.slice a7 (n + 1) c7) := ⟨_, rfl⟩
            rw [← hw8] at h7 M7
            have sz8 : w8.heap.size = w7.heap.size := by rw [hw8]; simp
            have sp := SZ3.out
            have ks := RS.out.1
            have kt := RS.out.2
            have S3 : ∀ W', Below w3.heap.size w3 W' → W'.cell? ⟨b, 10, none⟩ = some lv ∧ CellsAt W' s 7 a.si.vals ∧ CellsAt W' s 1 a.sm.vals := fun W' hb => ⟨(hb.cell (p := ⟨b, 10, none⟩) H3.out.lt).trans H3.out.lst, (ar_parts (CA3.out.later (by omega) hb)).2.1, (ar_parts (CA3.out.later (by omega) hb)).1⟩
            have nk : ∀ j, ρ j = (0, 0, 0) → ¬ ((ρ j).1 = k ∧ j ≠ b) := fun j e e2 => by rw [e] at e2; have e2 := e2.1; have e2 : 0 = k := e2; omega
            have ca7 := (CA3.out.later (by omega) b6).but (by omega) b7 (nk s ks)
            have cm7 := (CM3.out.later (by omega) b6).but (by omega) b7 (nk _ kt)
            have fm7 : ∀ j, w7.frozen? ⟨s + 1, j, none⟩ = false := fun j => (b7.frozen (p := ⟨s + 1, j, none⟩) (by show s + 1 < _; omega) (nk _ kt)).trans ((b6.frozen (p := ⟨s + 1, j, none⟩) (by show s + 1 < _; omega)).trans (FM3.out j))
            have bW8 : But (Only b) w7 w8 := by rw [hw8]; exact (But.refl (Only b) w7).setCell (p := ⟨b, 10, none⟩) (.inr rfl) _
            have hbW : b < W.heap.size := h.lt
            have hsW := HS.out
            have b7s := b7.size
            have S7 : w7.cell? ⟨b, 10, none⟩ = some lv ∧ CellsAt w7 s 7 a.si.vals ∧ CellsAt w7 s 1 a.sm.vals := ⟨l7, (ar_parts ca7).2.1, (ar_parts ca7).1⟩
            have FIN : Hid (HMid ρ k W b m i a r s (.slice none 0 0) w8) := by
              unfold Hid
              rw [ER.out]
              refine ⟨ρ', ⟨_, _, _, rfl⟩, ⟨_, _, by rw [List.map_append]; rfl, h7⟩, F7.below (by omega), (Mv.below HB3.out).trans M7, RowN.nil _ _, ca7.but (by omega) bW8 (fun e => by have e : s = b := e; omega), cm7.but (by omega) bW8 (fun e => by have e : s + 1 = b := e; omega), fun j => (bW8.frozen (p := ⟨s + 1, j, none⟩) (by show s + 1 < _; omega) (fun e => by have e : s + 1 = b := e; omega)).trans (fm7 j), (kp (s + 1) (by omega) (by omega)).trans kt, by omega⟩
            refine regionJ (fun j => j != 16) (fun W' => W'.cell? ⟨b, 10, none⟩ = some lv ∧ CellsAt W' s 7 a.si.vals ∧ CellsAt W' s 1 a.sm.vals) (by kernel_rfl) ?_
            rw [← hw4]
            refine takeJ (i := 0) (v := .pointer (some ⟨b, 0, none⟩)) 71 rfl rfl (by kernel_rfl) (by kernel_rfl) (by kernel_rfl) (by kernel_rfl) (fun _ _ _ h => h) (.inl ⟨by rfl, fun W hW => exec_move _ _ rfl rfl⟩) (S3 w4 b4) ?_
            try simp only [Act.put, List.setIfInBounds_toArray, List.set_cons_zero, List.set_cons_succ]
            refine takeJ (i := 1) (v := .pointer (some ⟨b, 0, none⟩)) 72 rfl rfl (by kernel_rfl) (by kernel_rfl) (by kernel_rfl) (by kernel_rfl) (fun _ _ _ h => h) (.inl ⟨by rfl, fun W hW => exec_move _ _ rfl rfl⟩) (S3 w4 b4) ?_
            try simp only [Act.put, List.setIfInBounds_toArray, List.set_cons_zero, List.set_cons_succ]
            refine takeJ (i := 2) (v := .pointer (some ⟨b, 0, none⟩)) 73 rfl rfl (by kernel_rfl) (by kernel_rfl) (by kernel_rfl) (by kernel_rfl) (fun _ _ _ h => h) (.inl ⟨by rfl, fun W hW => exec_nil _ _ rfl rfl⟩) (S3 w4 b4) ?_
            try simp only [Act.put, List.setIfInBounds_toArray, List.set_cons_zero, List.set_cons_succ]
            refine takeJ (i := 3) (v := .pointer (some ⟨b, 10, none⟩)) 74 rfl rfl (by kernel_rfl) (by kernel_rfl) (by kernel_rfl) (by kernel_rfl) (fun _ _ _ h => h) (.inl ⟨by rfl, fun W hW => exec_fieldO 75 _ 2 b 0 10 rfl rfl (fun w => by kernel_rfl)⟩) (S3 w4 b4) ?_
            try simp only [Act.put, List.setIfInBounds_toArray, List.set_cons_zero, List.set_cons_succ]
            refine takeJ (i := 4) (v := lv) 75 rfl rfl (by kernel_rfl) (by kernel_rfl) (by kernel_rfl) (by kernel_rfl) (fun _ _ _ h => h) (.inl ⟨by rfl, fun W hW => exec_load1 41 oneL _ rfl b 10 rfl (lv) (hW.1)⟩) (S3 w4 b4) ?_
            try simp only [Act.put, List.setIfInBounds_toArray, List.set_cons_zero, List.set_cons_succ]
            refine takeJ (i := 5) (v := .pointer (some ⟨s, 7, none⟩)) 76 rfl rfl (by kernel_rfl) (by kernel_rfl) (by kernel_rfl) (by kernel_rfl) (fun _ _ _ h => h) (.inl ⟨by rfl, fun W hW => exec_fieldO 27 _ 2 s 0 7 rfl rfl (fun w => by kernel_rfl)⟩) (S3 w4 b4) ?_
            try simp only [Act.put, List.setIfInBounds_toArray, List.set_cons_zero, List.set_cons_succ]
            refine takeJ (i := 6) (v := .agg (a.si.vals).toArray) 77 rfl rfl (by kernel_rfl) (by kernel_rfl) (by kernel_rfl) (by kernel_rfl) (fun _ _ _ h => h) (.inl ⟨by rfl, fun W hW => exec_loadA 25 4 aggI sizI _ rfl s 7 rfl (a.si.vals) rfl (hW.2.1)⟩) (S3 w4 b4) ?_
            try simp only [Act.put, List.setIfInBounds_toArray, List.set_cons_zero, List.set_cons_succ]
            refine takeJ (i := 7) (v := .pointer (some ⟨s, 1, none⟩)) 78 rfl rfl (by kernel_rfl) (by kernel_rfl) (by kernel_rfl) (by kernel_rfl) (fun _ _ _ h => h) (.inl ⟨by rfl, fun W hW => exec_fieldO 27 _ 1 s 0 1 rfl rfl (fun w => by kernel_rfl)⟩) (S3 w4 b4) ?_
            try simp only [Act.put, List.setIfInBounds_toArray, List.set_cons_zero, List.set_cons_succ]
            refine takeJ (i := 8) (v := .agg (a.sm.vals).toArray) 79 rfl rfl (by kernel_rfl) (by kernel_rfl) (by kernel_rfl) (by kernel_rfl) (fun _ _ _ h => h) (.inl ⟨by rfl, fun W hW => exec_loadA 23 6 aggM sizM _ rfl s 1 rfl (a.sm.vals) rfl (hW.2.2)⟩) (S3 w4 b4) ?_
            try simp only [Act.put, List.setIfInBounds_toArray, List.set_cons_zero, List.set_cons_succ]
            refine takeJ (i := 9) (v := .int .i64 now) 80 rfl rfl (by kernel_rfl) (by kernel_rfl) (by kernel_rfl) (by kernel_rfl) (fun _ _ _ h => h) (.inl ⟨by rfl, fun W hW => exec_move _ _ rfl rfl⟩) (S3 w4 b4) ?_
            try simp only [Act.put, List.setIfInBounds_toArray, List.set_cons_zero, List.set_cons_succ]
            refine takeJ (i := 10) (v := .int .i64 now) 81 rfl rfl (by kernel_rfl) (by kernel_rfl) (by kernel_rfl) (by kernel_rfl) (fun _ _ _ h => h) (.inl ⟨by rfl, fun W hW => exec_move _ _ rfl rfl⟩) (S3 w4 b4) ?_
            try simp only [Act.put, List.setIfInBounds_toArray, List.set_cons_zero, List.set_cons_succ]
            refine takeJ (i := 11) (v := .agg (Nb.cells ⟨a.si, 2, a.sm, now, now, 0, []⟩ (.slice none 0 0)).toArray) 82 rfl rfl (by kernel_rfl) (by kernel_rfl) (by kernel_rfl) (by kernel_rfl) (fun _ _ _ h => h) (.inl ⟨by rfl, fun W hW => exec_bldK _ _ _ _ a.si.a a.si.b a.si.c a.si.d a.sm.a a.sm.b a.sm.c a.sm.d a.sm.e a.sm.f now now rfl rfl rfl rfl rfl (fun _ => rfl)⟩) (S3 w4 b4) ?_
            try simp only [Act.put, List.setIfInBounds_toArray, List.set_cons_zero, List.set_cons_succ]
            refine nextJ (w' := w6) 12 83 (.slice (some ⟨p, 0, none⟩) 1 1) (by kernel_rfl) rfl rfl (by rfl) (by rw [hw6, hp]; exact exec_bsN _ _ _ _ _ rfl rfl) (S3 w6 b6) ?_
            try simp only [Act.put, List.setIfInBounds_toArray, List.set_cons_zero, List.set_cons_succ]
            refine nextJ (w' := w7) 13 84 (.slice a7 (n + 1) c7) (by kernel_rfl) rfl rfl (by rfl) (exec_app _ _ 41 41 rfl lv (.slice (some ⟨p, 0, none⟩) 1 1) rfl rfl 41 rfl hrun) (S7) ?_
            try simp only [Act.put, List.setIfInBounds_toArray, List.set_cons_zero, List.set_cons_succ]
            refine nextJ (w' := w7) 14 85 (.pointer (some ⟨b, 0, none⟩)) (by kernel_rfl) rfl rfl (by rfl) (exec_nil _ _ rfl rfl) (S7) ?_
            try simp only [Act.put, List.setIfInBounds_toArray, List.set_cons_zero, List.set_cons_succ]
            refine nextJ (w' := w7) 15 86 (.pointer (some ⟨b, 10, none⟩)) (by kernel_rfl) rfl rfl (by rfl) (exec_fieldO 75 _ 2 b 0 10 rfl rfl (fun w => by kernel_rfl)) (S7) ?_
            try simp only [Act.put, List.setIfInBounds_toArray, List.set_cons_zero, List.set_cons_succ]
            refine storeJ (w' := w8) 16 (by kernel_rfl) rfl rfl (by rfl) (by rw [hw8]; exact exec_store1 41 s1L _ _ rfl b 10 rfl lv _ rfl l7 f7 rfl) ((fun e => by simp at e)) ?_
            try simp only [Act.put, List.setIfInBounds_toArray, List.set_cons_zero, List.set_cons_succ]
            refine doneJ (by kernel_rfl) ?_ _
            clear hrun b7 l7 f7 h7 F7 M7 kp c6 b6 b4 hw4 hw6 hw8 sz4 sz6 sz8 S3 ca7 cm7 fm7 bW8 hbW hsW b7s sp ks kt hp S7 nk
            go_wp2
            go_meet
            exact ⟨trivial, FIN.out⟩
          · have ER : Hid (r = ⟨!a.ans && eqI a.di i, [], zM, Lt.map Prod.snd⟩) := by
              unfold Hid
              rw [hr]
              unfold hd
              rw [if_neg NH.out, hf]
              simp only
              rw [if_neg (fun e => hadd ⟨HFH.out ▸ e.1, by simpa using e.2⟩)]
            have FIN : Hid (HMid ρ k W b m i a r s (.slice none 0 0) w3) := by
              unfold Hid
              rw [ER.out]
              exact ⟨ρ, ⟨_, _, _, rfl⟩, ⟨_, _, rfl, H3.out⟩, F3.out, Mv.below HB3.out, RowN.nil _ _, CA3.out, CM3.out, FM3.out, RS.out.2, SZ3.out⟩
            cases fh with
            | false =>
              clear hr hf hadd
              go_wp2
              go_meet
              exact ⟨trivial, FIN.out⟩
            | true =>
              obtain ⟨la0, lc0, hlv⟩ : ∃ la0 lc0, lv = .slice la0 Lt.length lc0 := by
                obtain ⟨a0, c0, e0, _⟩ := H3.out.row
                exact ⟨a0, c0, e0⟩
              have h8 : Lt.length = 8 := by
                by_cases e : Lt.length < 8
                · exact absurd ⟨rfl, e⟩ hadd
                · omega
              have cL : w3.cell? ⟨b, 10, none⟩ = some (.slice la0 8 lc0) := by rw [← h8, ← hlv]; exact H3.out.lst
              clear hr hf hadd hlv h8
              go_wp2
              go_meet
              exact ⟨trivial, FIN.out⟩
        | some q =>
          simp only [Option.map_some]
          obtain ⟨x, hx, _⟩ := fndI_spec hf
          obtain ⟨t, hq⟩ := get_snd hx
          have ER : Hid (r = ⟨!a.ans && eqI a.di i, x.pd, if x.pd = [] then zM else a.sm, (Lt.map Prod.snd).set q { x with mac := a.sm, st := 2, since := now, tries := 0, pd := [] }⟩) := by
            unfold Hid
            rw [hr]
            unfold hd
            rw [if_neg NH.out, hf]
            simp only [hx]
          obtain ⟨hrg, c, hlv⟩ := HG.out (by have := (List.getElem?_eq_some_iff.1 hq).1; omega)
          obtain ⟨V, hR3, hP3⟩ := H3.out.row.parts
          rw [hlv] at hR3
          have hql : q < Lt.length := (List.getElem?_eq_some_iff.1 hq).1
          obtain ⟨g', eg, hg3, _, hfz, hcs⟩ := hR3.at (by omega)
          cases eg
          have cx := hcs q hql
          rw [nbc_at hq] at cx
          obtain ⟨hrow, hnil⟩ := hP3 q t x hq
          obtain ⟨va, vc, hV⟩ := hrow.shape
          have hgs : g < W.heap.size := Classical.byContradiction fun hn => by
            rw [HF0.out g (by omega)] at hrg
            simp at hrg
          have sg : s ≠ g := by have := HS.out; omega
          have tg : s + 1 ≠ g := by have := HS.out; omega
          have p1 := Nb.putMac cx a.sm
          have n1 : Near w3 (w3.setCells g (q * 15 + 5) a.sm.vals) g (q * 15) := (Near.refl _ _ _).cells 5 _ (by simp [M6.vals]) (fun j hj => by have := cx.is (5 + j) (by rw [Nb.cells_len]; simp [M6.vals] at hj; omega); rw [Nat.add_assoc]; exact this)
          have p2 := p1.put 4 (.int .i64 2) (by rw [Nb.cells_len]; omega)
          have n2 := n1.cell 4 (.int .i64 2) (by omega) (p1.is 4 (by rw [Nb.cells_len]; omega))
          have p3 := p2.put 11 (.int .i64 now) (by rw [List.length_set, Nb.cells_len]; omega)
          have n3 := n2.cell 11 (.int .i64 now) (by omega) (p2.is 11 (by rw [List.length_set, Nb.cells_len]; omega))
          have p4 := p3.put 13 (.int .i64 0) (by rw [List.length_set, List.length_set, Nb.cells_len]; omega)
          have n4 := n3.cell 13 (.int .i64 0) (by omega) (p3.is 13 (by rw [List.length_set, List.length_set, Nb.cells_len]; omega))
          have p5 := p4.put 14 (.slice none 0 0) (by rw [List.length_set, List.length_set, List.length_set, Nb.cells_len]; omega)
          have n5 := n4.cell 14 (.slice none 0 0) (by omega) (p4.is 14 (by rw [List.length_set, List.length_set, List.length_set, Nb.cells_len]; omega))
          obtain ⟨w4, hw4⟩ : ∃ w4, w4 = ((((w3.setCells g (q * 15 + 5) a.sm.vals).setCell ⟨g, q * 15 + 4, none⟩ (.int .i64 2)).setCell ⟨g, q * 15 + 11, none⟩ (.int .i64 now)).setCell ⟨g, q * 15 + 13, none⟩ (.int .i64 0)).setCell ⟨g, q * 15 + 14, none⟩ (.slice none 0 0) := ⟨_, rfl⟩
          have p6 : CellsAt w4 g (q * 15) (Nb.cells { x with mac := a.sm, st := 2, since := now, tries := 0, pd := [] } (.slice none 0 0)) := by rw [hw4]; exact p5
          rw [← hw4] at n5
          obtain ⟨ρ', hρ'⟩ : ∃ ρ' : Nat → Role, ∀ j, ρ' j = if ρ j = (k, 2, t) then (0, 0, 0) else ρ j := ⟨_, fun _ => rfl⟩
          have h4 : CAt ρ' k w4 b m i lv (Lt.set q (t, { x with mac := a.sm, st := 2, since := now, tries := 0, pd := [] })) := H3.out.turn hq hlv (But.refl _ _) n5 p6 (fun j _ e => by rw [hρ', if_neg e]) (RowN.nil _ _) (fun _ => rfl)
          have z5 := n5.but.size
          have sp := SZ3.out
          have rN := hrow.but (W' := w4) n5.but (fun j e e2 => by have e2 : j = g := e2; rw [e2, hrg] at e; simp at e)
          have FIN : Hid (HMid ρ k W b m i a r s (.slice va x.pd.length vc) w4) := by
            unfold Hid
            rw [ER.out]
            refine ⟨ρ', ⟨_, _, _, rfl⟩, ⟨_, _, List.map_set, h4⟩, fun j hj => ?_, ⟨fun j hj hn => ?_, ?_⟩, ?_, CA3.out.but (by omega) n5.but sg, CM3.out.but (by omega) n5.but tg, fun j => (n5.but.frozen (p := ⟨s + 1, j, none⟩) (by show s + 1 < _; omega) tg).trans (FM3.out j), ?_, by omega⟩
            · rw [hρ', if_neg (by rw [F3.out j (by omega)]; simp)]; exact F3.out j (by omega)
            · rw [hρ', if_neg (fun e => hn (by rw [e]))]
            · exact (But.of_below HB3.out).trans' n5.but (fun j _ e => by have e : j = g := e; rw [e, hrg])
            · rw [← hV]
              refine rN.own (fun j _ e => ⟨⟨by rw [hρ', if_pos e], .inr (by rw [e])⟩, fun e2 => ?_⟩)
              rw [e2, RS.out.2] at e
              simp at e
            · rw [hρ', if_neg (by rw [RS.out.2]; simp)]; exact RS.out.2
          have c14 : w3.cell? ⟨g, q * 15 + 14, none⟩ = some (.slice va x.pd.length vc) := by rw [← hV]; exact cx 14 _ rfl
          have m0 := cx 5 _ rfl
          have m1 := cx 6 _ rfl
          have m2 := cx 7 _ rfl
          have m3 := cx 8 _ rfl
          have m4 := cx 9 _ rfl
          have m5 := cx 10 _ rfl
          have x4 := cx 4 _ rfl
          have x11 := cx 11 _ rfl
          have x13 := cx 13 _ rfl
          have pa := (ar_parts CA3.out).1
          have y0 := pa 0 _ rfl
          have y1 := pa 1 _ rfl
          have y2 := pa 2 _ rfl
          have y3 := pa 3 _ rfl
          have y4 := pa 4 _ rfl
          have y5 := pa 5 _ rfl
          simp only [Nat.reduceAdd] at y0 y1 y2 y3 y4 y5
          have ff := hfz
          have HW4 := hide hw4
          obtain ⟨pl, hpl⟩ : ∃ pl, x.pd.length = pl := ⟨_, rfl⟩
          rw [hpl] at c14 FIN
          clear hr hf hq hx hlv hR3 hP3 hcs cx hrow hnil hV p1 p2 p3 p4 p5 p6 n1 n2 n3 n4 n5 hρ' h4 z5 sp rN pa hfz hpl hw4 hrg
          go_wp2
          go_meet
          rw [HW4.out] at FIN
          exact ⟨trivial, FIN.out⟩
      case rest =>
        obtain ⟨ρ', ⟨x9, n9, c9, rfl⟩, hc, hF, hM, hrow, ca, cm, fm, rt, sz⟩ := hcut.2.out
        obtain ⟨wm, hwm⟩ : ∃ wm, wm = wc := ⟨_, rfl⟩
        subst hwm
        have HR := hide hr
        have HD := hide (hd_facts (now := now) (L := Lt.map Prod.snd) NH.out)
        rw [← hr] at HD
        have e9 : n9 = r.may.length := by
          obtain ⟨a0, c0, e0⟩ := hrow.shape
          simp only [Value.slice.injEq] at e0
          exact e0.2.1
        have c0 : wm.cell? ⟨s, 0, none⟩ = some (.bool a.ans) := ca 0 _ rfl
        have HC := hide hc
        have HFc := hide hF
        have HM := hide hM
        have HRow := hide hrow
        have HCA := hide ca
        have HCM := hide cm
        have HFM := hide fm
        have HRT := hide rt
        have HSZ := hide sz
        have HE9 := hide e9
        obtain ⟨q, hq⟩ : ∃ q : Ar, q = ⟨true, m, i, a.sm, a.si⟩ := ⟨_, rfl⟩
        have HQ := hide hq
        clear hq
        clear hr hc hF hM hrow ca cm fm rt sz hcut e9 H3 F3 HB3 CA3 CM3 FM3 SZ3
        go_upto_region 12 with fail
        go_cut [92] (fun v92 wy => v92 = .bool r.ans ∧ wm = wy)
        case first =>
          cases han : a.ans with
          | true =>
            rw [han] at c0
            have E : r.ans = false := by rw [HD.out.1, han]; rfl
            have HEE := hide E
            clear E
            go_wp2
            go_meet
            exact ⟨by rw [HEE.out], rfl⟩
          | false =>
            rw [han] at c0
            have E : r.ans = fh := by rw [HD.out.1, han, HFH.out]; simp
            have HEE := hide E
            clear E
            go_wp2
            go_meet
            exact ⟨by rw [HEE.out], rfl⟩
        case rest =>
        obtain ⟨rfl, ew⟩ := hcut
        subst ew
        clear c0
        go_upto_if 92 with fail
        go_cut [12] (fun v12 wx => Hid (HTail q r wm v12 wx))
        case first =>
          cases EA0 : r.ans with
          | false =>
              have FIN : Hid (HTail q r wm (.slice none 0 0) wm) := ⟨⟨_, _, _, rfl⟩, Below.refl _ _, by rw [EA0]; exact RowF.nil _ _ _ _⟩
              go_wp2
              go_meet
              exact FIN.out
          | true =>
              have EA := hide EA0
              have AT : Hid (Calls Try.prog 39 #[.pointer (some ⟨b, 0, none⟩), .agg a.vals.toArray] wm fun e w' => e = .returned q.val ∧ Below wm.heap.size wm w') := by
                unfold Hid
                obtain ⟨lv', Lt', _, hcc⟩ := HC.out
                rw [HQ.out]
                exact answerTo_any b m i a hcc.host
              go_wp2_with (refine wpList_loadA rfl 27 21 aggA sizA _ rfl s 0 rfl a.vals rfl HCA.out ?_)
              refine AT.out.mono ?_
              rintro _ w5 ⟨rfl, b5⟩
              rename_i K hK
              refine hK _ _ ?_
              refine wpList_val rfl (exec_bsA (.tmp 95) q rfl rfl) ?_
              have FIN : Hid (HTail q r wm (.slice (some ⟨w5.heap.size, 0, none⟩) 1 1) (w5.alloc (.cells q.vals.toArray 27))) := by
                refine ⟨⟨_, _, _, rfl⟩, b5.alloc b5.size _, ?_⟩
                rw [EA.out]
                have c5 := CellsAt.new w5 q.vals 27
                refine ⟨_, 1, rfl, Nat.le_refl _, by unfold maxLen; omega, (fun e => by cases e), fun ad e => ?_⟩
                cases e
                refine ⟨w5.heap.size, rfl, b5.size, by simp, fun j hj => ?_, fun j => frozen_new w5 _ _ _, fun q' hq' => ?_⟩
                · have := c5.is j hj
                  rw [Nat.zero_add] at this
                  exact this
                · have : q' = 0 := by simp at hq'; omega
                  subst this
                  rw [Nat.zero_mul]
                  exact c5
              go_wp2
              go_meet
              exact FIN.out
        case rest =>
          obtain ⟨⟨a12, n12, c12, rfl⟩, bx, rx⟩ := hcut.out
          have sz := HSZ.out
          have CMx := hide (HCM.out.later (by omega) bx)
          have FMx : Hid (∀ j, wc.frozen? ⟨s + 1, j, none⟩ = false) := fun j => (bx.frozen (p := ⟨s + 1, j, none⟩) (by show s + 1 < _; omega)).trans (HFM.out j)
          have CAx := hide (HCA.out.later (by omega) bx)
          have RXN := HRow.out.later bx
          have hWs := HM.out.but.size
          have hsW := HS.out
          have FIN : Hid (∀ wz gv mc, But (Only (s + 1)) wc wz → mc = r.mac → RowN (fun g => Free ρ ρ' k W g ∧ g ≠ s + 1) wc gv r.may → HdEnd ρ k W b m i a (hd i a now (Lt.map Prod.snd)) (.returned (.tuple #[.slice a12 n12 c12, gv, mc.val])) wz) := fun wz gv mc bz em hg => by
            rw [em, ← HR.out]
            refine HdEnd.fin (ρ' := ρ') (HC.out.later bx) (HFc.out.below bx.size) (HM.out.trans (Mv.below bx)) (s + 1) (by omega) HRT.out bz ((hg.but bz (fun g e => e.2)).own (fun _ _ e => e.1)) ?_
            have rx2 := (rx.own (O' := fun g => Free ρ ρ' k W g ∧ g ≠ s + 1) (fun g _ e => ⟨⟨HFc.out g e, .inl (by omega)⟩, by omega⟩)).but bz (fun g e => e.2)
            rw [HQ.out] at rx2
            exact rx2.own (fun _ _ e => e.1)
          by_cases he : r.may = []
          · have e9 : n9 = 0 := by rw [HE9.out, he]; rfl
            subst e9
            have FE := hide (FIN.out (wc.setCells (s + 1) 0 zM.vals) (.slice none 0 0) zM (But.cells (s + 1) zM.vals 0 wc) (by rw [HD.out.2, if_pos he]) (by rw [he]; exact RowN.nil _ _))
            have LV := hide (run_loadVarA 23 6 aggM sizM (s + 1) 0 zM.vals rfl (CMx.out.stored rfl))
            have z0 := CMx.out 0 _ rfl
            have z1 := CMx.out 1 _ rfl
            have z2 := CMx.out 2 _ rfl
            have z3 := CMx.out 3 _ rfl
            have z4 := CMx.out 4 _ rfl
            have z5 := CMx.out 5 _ rfl
            simp only [Nat.zero_add] at z0 z1 z2 z3 z4 z5
            have zf := FMx.out
            clear hsW hWs bx rx hcut RXN sz he
            go_wp2
            refine bodyPost_ret (v := .tuple #[.slice a12 n12 c12, .slice none 0 0, zM.val]) ?_ rfl FE.out
            exact results_3 rfl _ _ (s + 1) _ _ _ rfl rfl rfl LV.out
          · have n0 : ((n9 : Int) == 0) = false := by
              have : 0 < n9 := by rw [HE9.out]; cases hm : r.may with
                | nil => exact absurd hm he
                | cons y ys => simp
              simp; omega
            have FE := hide (FIN.out (wc.drew.setCells (s + 1) 0 a.sm.vals) (.slice x9 n9 c9) a.sm ((But.refl (Only (s + 1)) wc).drew.trans (But.cells (s + 1) a.sm.vals 0 wc.drew)) (by rw [HD.out.2, if_neg he]) RXN)
            have cmd : CellsAt wc.drew (s + 1) 0 zM.vals := CMx.out
            have LV := hide (run_loadVarA 23 6 aggM sizM (s + 1) 0 a.sm.vals rfl (cmd.stored rfl))
            have Sx : CellsAt wc.drew s 1 a.sm.vals := (ar_parts CAx.out).1
            have lt : s < wc.drew.heap.size := by have := bx.size; show s < wc.heap.size; omega
            have bS := But.cells (s + 1) a.sm.vals 0 wc.drew
            have Sy : CellsAt (wc.drew.setCells (s + 1) 0 a.sm.vals) s 1 a.sm.vals := Sx.but lt bS (fun e => by have e : s = s + 1 := e; omega)
            clear hsW hWs bx rx hcut RXN sz he
            go_wp2_with fail
            refine region_out (fun W' => CellsAt W' s 1 a.sm.vals) (by kernel_rfl) ?_
            refine takeD (i := 0) (v := .slice a12 n12 c12) 102 rfl rfl (by kernel_rfl) (by kernel_rfl) (by kernel_rfl) (fun _ _ _ h => h) (.inl ⟨by rfl, fun W hW => exec_move _ _ rfl rfl⟩) (Sx) ?_
            try simp only [Act.put, List.setIfInBounds_toArray, List.set_cons_zero, List.set_cons_succ]
            refine takeD (i := 1) (v := .slice x9 n9 c9) 103 rfl rfl (by kernel_rfl) (by kernel_rfl) (by kernel_rfl) (fun _ _ _ h => h) (.inl ⟨by rfl, fun W hW => exec_move _ _ rfl rfl⟩) (Sx) ?_
            try simp only [Act.put, List.setIfInBounds_toArray, List.set_cons_zero, List.set_cons_succ]
            refine takeD (i := 2) (v := .pointer (some ⟨s, 1, none⟩)) 104 rfl rfl (by kernel_rfl) (by kernel_rfl) (by kernel_rfl) (fun _ _ _ h => h) (.inl ⟨by rfl, fun W hW => exec_fieldO 27 _ 1 s 0 1 rfl rfl (fun w => by kernel_rfl)⟩) (Sx) ?_
            try simp only [Act.put, List.setIfInBounds_toArray, List.set_cons_zero, List.set_cons_succ]
            refine takeD (i := 3) (v := .agg (a.sm.vals).toArray) 105 rfl rfl (by kernel_rfl) (by kernel_rfl) (by kernel_rfl) (fun _ _ _ h => h) (.inl ⟨by rfl, fun W hW => exec_loadA 23 6 aggM sizM _ rfl s 1 rfl (a.sm.vals) rfl (hW)⟩) (Sx) ?_
            try simp only [Act.put, List.setIfInBounds_toArray, List.set_cons_zero, List.set_cons_succ]
            refine takeD (i := 4) (v := .slice a12 n12 c12) 6 rfl rfl (by kernel_rfl) (by kernel_rfl) (by kernel_rfl) (fun _ _ _ h => h) (.inl ⟨by rfl, fun W hW => exec_assign _ _ rfl rfl⟩) (Sx) ?_
            try simp only [Act.put, List.setIfInBounds_toArray, List.set_cons_zero, List.set_cons_succ]
            refine takeD (i := 5) (v := .slice x9 n9 c9) 7 rfl rfl (by kernel_rfl) (by kernel_rfl) (by kernel_rfl) (fun _ _ _ h => h) (.inl ⟨by rfl, fun W hW => exec_assign _ _ rfl rfl⟩) (Sx) ?_
            try simp only [Act.put, List.setIfInBounds_toArray, List.set_cons_zero, List.set_cons_succ]
            refine storeD (w' := wc.drew.setCells (s + 1) 0 a.sm.vals) 6 (by kernel_rfl) rfl rfl (by rfl) (exec_storeA 23 6 sizM _ _ rfl (s + 1) 0 rfl a.sm.vals zM.vals rfl rfl rfl cmd FMx.out (m6_one _)) (Sy) ?_
            try simp only [Act.put, List.setIfInBounds_toArray, List.set_cons_zero, List.set_cons_succ]
            refine wpAnyH_done (by kernel_rfl) ?_ _
            obtain ⟨wz, hwz⟩ : ∃ wz, wz = wc.drew.setCells (s + 1) 0 a.sm.vals := ⟨_, rfl⟩
            rw [← hwz] at FE LV ⊢
            clear hwz Sx Sy bS lt cmd
            go_wp2
            refine bodyPost_ret (v := .tuple #[.slice a12 n12 c12, .slice x9 n9 c9, a.sm.val]) ?_ rfl FE.out
            exact results_3 rfl _ _ (s + 1) _ _ _ rfl rfl rfl LV.out
theorem Heard_any (h : Ca ρ k W b m i L) (hF : Fit ρ W) (now : Int) (hok : LOk now L) (a : Ar) :
    Calls Try.prog 20 #[.pointer (some ⟨b, 0, none⟩), a.val, .int .i64 now] W (HdEnd ρ k W b m i a (hd i a now L)) := by
  obtain ⟨lv, Lt, rfl, h⟩ := h
  exact heard_any h hF now hok a
end
end Go.Proofs.Ytdcpnjlldocdcaa
