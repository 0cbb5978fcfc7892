
/-
  Package core: Ended, Shut, Passive.
-/
import Derived.Test.YtgdcdgofahhfdaaO8
namespace Go.Proofs.Ytgdcdgofahhfdaa
open Go.RowKit Go.Shelf

def endS (n : Int) : Int := if n = 2 ∨ n = 3 then 6 else if n = 4 then 7 else if n = 5 then 9 else n
def endC (c : Ct) : Ct := { c with st := endS c.st, rcv := (c.rcv + 1) % 4294967296, adv := if 0 < dif ((c.rcv + 1) % 4294967296) c.adv then (c.adv + 1) % 4294967296 else c.adv }
def shutE (c : Ct) : Int := if c.fs = false ∧ (c.st = 2 ∨ c.st = 3 ∨ c.st = 6) then 0 else 212
def shutC (c : Ct) : Ct := if shutE c = 0 then { c with fs := true, nxt := (c.nxt + 1) % 4294967296, st := if c.st = 6 then 8 else 4 } else zCt
/-- a connection in a block of its own, its cells, and that nothing keeps it as it is -/
def OwnC (W : World) (b : Nat) (c : Ct) : Prop := CellsAt W b 0 c.cells ∧ (∀ y, W.frozen? ⟨b, y, none⟩ = false) ∧ b < W.heap.size
section
variable {W W' : World} {b : Nat} {c c' : Ct}
theorem OwnC.later (h : OwnC W b c) (hB : Below W.heap.size W W') : OwnC W' b c :=
  ⟨h.1.later h.2.2 hB, fun y => (hB.frozen (p := ⟨b, y, none⟩) h.2.2).trans (h.2.1 y), Nat.lt_of_lt_of_le h.2.2 hB.size⟩
theorem OwnC.but {K : Nat → Prop} (h : OwnC W b c) (hB : But K W W') (hk : ¬ K b) : OwnC W' b c :=
  ⟨h.1.but h.2.2 hB hk, fun y => (hB.frozen (p := ⟨b, y, none⟩) h.2.2 hk).trans (h.2.1 y), Nat.lt_of_lt_of_le h.2.2 hB.size⟩
theorem OwnC.one (h : OwnC W b c) {k : Nat} (hk : k < 11) (u : Value) (e : c'.cells = c.cells.set k u) : OwnC (W.setCell ⟨b, k, none⟩ u) b c' :=
  ⟨by have := h.1.one (k := k) hk u; rw [← e] at this; exact this, fun y => by rw [World.frozen?_setCell]; exact h.2.1 y, Nat.lt_of_lt_of_le h.2.2 ((But.refl (Only b) W).cellb (b := b) rfl k u).size⟩
theorem OwnC.all (h : OwnC W b c) (c' : Ct) : OwnC (W.setCells b 0 c'.cells) b c' :=
  ⟨h.1.stored rfl, fun y => by rw [World.frozen?_setCells]; exact h.2.1 y, Nat.lt_of_lt_of_le h.2.2 (But.cells b c'.cells 0 W).size⟩
end
/-- two new blocks: a connection that came in, and room for the one that is told -/
theorem boxCC (w : World) (c : Ct) : ∃ w1 w2 s1 s2, s1 = w.heap.size ∧ w1 = w.alloc (.cells #[.int .i64 c.st, .int .u32 c.iss, .int .u32 c.una, .int .u32 c.nxt, .bool c.fs, .int .i64 c.wnd, .int .u32 c.wl1, .int .u32 c.wl2, .int .u32 c.irs, .int .u32 c.rcv, .int .u32 c.adv] 24) ∧ s2 = w1.heap.size ∧ w2 = w1.alloc (.cells #[.int .i64 0, .int .u32 0, .int .u32 0, .int .u32 0, .bool false, .int .i64 0, .int .u32 0, .int .u32 0, .int .u32 0, .int .u32 0, .int .u32 0] 24) ∧ OwnC w2 s1 c ∧ OwnC w2 s2 zCt ∧ s1 ≠ s2 ∧ w.heap.size ≤ s1 ∧ w.heap.size ≤ s2 ∧ Below w.heap.size w w2 := by
  obtain ⟨w1, s1, h1, hw1, c1, f1, b1, l1⟩ := boxC w c
  obtain ⟨w2, s2, h2, hw2, c2, f2, b2, l2⟩ := boxC w1 zCt
  exact ⟨w1, w2, s1, s2, h1, hw1, h2, hw2, OwnC.later (W := w1) ⟨c1, f1, l1⟩ b2, ⟨c2, f2, l2⟩, by omega, by omega, by have := b1.size; omega, later b1 b2⟩
set_option maxHeartbeats 8000000 in
theorem Ended_any (c : Ct) (w : World) : Calls Try.prog 18 #[.agg c.cells.toArray] w fun e w' => e = .returned (.agg (endC c).cells.toArray) ∧ Below w.heap.size w w' := by
  obtain ⟨w1, w2, s1, s2, hs1, hw1, hs2, hw2, o1, o2, n12, z1, z2, b2⟩ := boxCC w c
  rw [show (Value.agg c.cells.toArray) = .agg #[.int .i64 c.st, .int .u32 c.iss, .int .u32 c.una, .int .u32 c.nxt, .bool c.fs, .int .i64 c.wnd, .int .u32 c.wl1, .int .u32 c.wl2, .int .u32 c.irs, .int .u32 c.rcv, .int .u32 c.adv] from rfl]
  have x0 : w2.cell? ⟨s1, 0, none⟩ = some (.int .i64 c.st) := o1.1 0 _ rfl
  have f0 := o1.2.1 0
  have x9 : w2.cell? ⟨s1, 9, none⟩ = some (.int .u32 c.rcv) := o1.1 9 _ rfl
  have f9 := o1.2.1 9
  have x10 : w2.cell? ⟨s1, 10, none⟩ = some (.int .u32 c.adv) := o1.1 10 _ rfl
  have f10 := o1.2.1 10
  have hs1' := hs1.symm
  have hw1' := hw1.symm
  have hs2' := hs2.symm
  have hw2' := hw2.symm
  have O1 := hide o1
  have O2 := hide o2
  have N12 := hide n12
  have Z12 : Hid (w.heap.size ≤ s1 ∧ w.heap.size ≤ s2) := ⟨z1, z2⟩
  have B2 := hide b2
  clear hs1 hw1 hs2 hw2 o1 o2 n12 z1 z2 b2
  obtain ⟨R, hR⟩ : ∃ R, R = endC c := ⟨_, rfl⟩
  rw [← hR]
  obtain ⟨n9, hn9⟩ : ∃ n9, n9 = (c.rcv + 1) % 4294967296 := ⟨_, rfl⟩
  obtain ⟨d, hd⟩ : ∃ d, d = decide (0 < dif n9 c.adv) := ⟨_, rfl⟩
  have IB : Hid (∀ W, Calls Try.prog 34 #[.int .u32 n9, .int .u32 c.adv] W fun e w' => e = .returned (.bool d) ∧ w' = W) := fun W => by rw [hd]; exact isBehind_any n9 c.adv W
  have HD := hide hd
  have HN := hide hn9
  have hn9' := hn9.symm
  have HR : Hid (R = { c with st := endS c.st, rcv := n9, adv := if 0 < dif n9 c.adv then (c.adv + 1) % 4294967296 else c.adv }) := by rw [hR, hn9]; exact rfl
  clear hR hd hn9
  go_enter Try.func18, Try.ntmps18
  go_upto_region 1 with fail
  clear hs1' hw1' hs2' hw2'
  by_cases h2 : c.st = 2
  · skip
    have ES : Hid (endS c.st = 6) := by unfold Hid endS; rw [if_pos (.inl h2)]
    go_wp2_with fail
    refine (IB.out _).mono ?_
    rintro _ wz ⟨rfl, hwz⟩
    subst hwz
    cases d with
    | true =>
      have DD : 0 < dif n9 c.adv := of_decide_eq_true HD.out.symm
      obtain ⟨w8, hwa⟩ : ∃ w3, w3 = (((w2.setCell ⟨s1, 0, none⟩ (.int .i64 6)).setCell ⟨s1, 9, none⟩ (.int .u32 n9)).setCell ⟨s1, 10, none⟩ (.int .u32 ((c.adv + 1) % 4294967296))) := ⟨_, rfl⟩
      obtain ⟨K, hK⟩ : ∃ K, K = ({ c with st := 6, rcv := n9, adv := (c.adv + 1) % 4294967296 } : Ct).cells := ⟨_, rfl⟩
      have LK : Hid (K.length = 11) := by rw [hK]; exact rfl
      have OK : Hid (∀ u ∈ K, u.oneCell' = true) := by rw [hK]; exact ct_one _
      have BA : Hid (But (Only s1) w2 w8) := by rw [hwa]; exact ((((But.refl (Only s1) w2).setOf (b := s1) rfl 0 (.int .i64 6)).setOf (b := s1) rfl 9 (.int .u32 n9)).setOf (b := s1) rfl 10 (.int .u32 ((c.adv + 1) % 4294967296)))
      have OA : Hid (CellsAt w8 s1 0 K) := by rw [hK, hwa]; exact (((O1.out.one (k := 0) (c' := { c with st := 6 }) (by decide) (.int .i64 6) rfl).one (k := 9) (c' := { c with st := 6, rcv := n9 }) (by decide) (.int .u32 n9) rfl).one (k := 10) (c' := { c with st := 6, rcv := n9, adv := (c.adv + 1) % 4294967296 }) (by decide) (.int .u32 ((c.adv + 1) % 4294967296)) rfl).1
      have OB : Hid (OwnC w8 s2 zCt) := O2.out.but BA.out (fun e => N12.out (Eq.symm e))
      have CB := hide OB.out.1
      have FB := hide OB.out.2.1
      obtain ⟨w9, hw9⟩ : ∃ w9, w9 = w8.setCells s2 0 K := ⟨_, rfl⟩
      have C9 : Hid (CellsAt w9 s2 0 K) := by rw [hw9]; exact CB.out.stored (by rw [LK.out]; rfl)
      have B9 : Hid (Below w.heap.size w w9) := by
        have h1 := B2.out.trans (BA.out.below B2.out.size (fun g hg e => by have e : g = s1 := e; have := Z12.out.1; omega))
        rw [hw9]
        exact h1.trans ((But.cells s2 K 0 w8).below h1.size (fun g hg e => by have e : g = s2 := e; have := Z12.out.2; omega))
      have hwa' := hwa.symm
      have hw9' := hw9.symm
      have HK := hide hK
      clear hwa hw9 hK BA OB
      go_wp2_with (first | refine wpList_loadA rfl 24 11 aggCt sizCt _ rfl s1 0 rfl K LK.out OA.out ?_ | (refine wpList_storeA rfl 24 11 sizCt _ _ rfl s2 0 rfl K zCt.cells rfl LK.out rfl CB.out FB.out OK.out ?_; intro _; rw [hw9']))
      refine bodyPost_ret (v := .agg K.toArray) (results_A rfl _ _ s2 _ rfl (run_loadVarA 24 11 aggCt sizCt s2 0 _ LK.out C9.out)) rfl ?_
      exact ⟨by rw [HK.out, HR.out, ES.out, if_pos DD], B9.out⟩
    | false =>
      have DD : ¬ 0 < dif n9 c.adv := of_decide_eq_false HD.out.symm
      obtain ⟨w8, hwa⟩ : ∃ w3, w3 = ((w2.setCell ⟨s1, 0, none⟩ (.int .i64 6)).setCell ⟨s1, 9, none⟩ (.int .u32 n9)) := ⟨_, rfl⟩
      obtain ⟨K, hK⟩ : ∃ K, K = ({ c with st := 6, rcv := n9 } : Ct).cells := ⟨_, rfl⟩
      have LK : Hid (K.length = 11) := by rw [hK]; exact rfl
      have OK : Hid (∀ u ∈ K, u.oneCell' = true) := by rw [hK]; exact ct_one _
      have BA : Hid (But (Only s1) w2 w8) := by rw [hwa]; exact (((But.refl (Only s1) w2).setOf (b := s1) rfl 0 (.int .i64 6)).setOf (b := s1) rfl 9 (.int .u32 n9))
      have OA : Hid (CellsAt w8 s1 0 K) := by rw [hK, hwa]; exact ((O1.out.one (k := 0) (c' := { c with st := 6 }) (by decide) (.int .i64 6) rfl).one (k := 9) (c' := { c with st := 6, rcv := n9 }) (by decide) (.int .u32 n9) rfl).1
      have OB : Hid (OwnC w8 s2 zCt) := O2.out.but BA.out (fun e => N12.out (Eq.symm e))
      have CB := hide OB.out.1
      have FB := hide OB.out.2.1
      obtain ⟨w9, hw9⟩ : ∃ w9, w9 = w8.setCells s2 0 K := ⟨_, rfl⟩
      have C9 : Hid (CellsAt w9 s2 0 K) := by rw [hw9]; exact CB.out.stored (by rw [LK.out]; rfl)
      have B9 : Hid (Below w.heap.size w w9) := by
        have h1 := B2.out.trans (BA.out.below B2.out.size (fun g hg e => by have e : g = s1 := e; have := Z12.out.1; omega))
        rw [hw9]
        exact h1.trans ((But.cells s2 K 0 w8).below h1.size (fun g hg e => by have e : g = s2 := e; have := Z12.out.2; omega))
      have hwa' := hwa.symm
      have hw9' := hw9.symm
      have HK := hide hK
      clear hwa hw9 hK BA OB
      go_wp2_with (first | refine wpList_loadA rfl 24 11 aggCt sizCt _ rfl s1 0 rfl K LK.out OA.out ?_ | (refine wpList_storeA rfl 24 11 sizCt _ _ rfl s2 0 rfl K zCt.cells rfl LK.out rfl CB.out FB.out OK.out ?_; intro _; rw [hw9']))
      refine bodyPost_ret (v := .agg K.toArray) (results_A rfl _ _ s2 _ rfl (run_loadVarA 24 11 aggCt sizCt s2 0 _ LK.out C9.out)) rfl ?_
      exact ⟨by rw [HK.out, HR.out, ES.out, if_neg (by omega)], B9.out⟩
  by_cases h3 : c.st = 3
  · skip
    have ES : Hid (endS c.st = 6) := by unfold Hid endS; rw [if_pos (.inr h3)]
    go_wp2_with fail
    refine (IB.out _).mono ?_
    rintro _ wz ⟨rfl, hwz⟩
    subst hwz
    cases d with
    | true =>
      have DD : 0 < dif n9 c.adv := of_decide_eq_true HD.out.symm
      obtain ⟨w8, hwa⟩ : ∃ w3, w3 = (((w2.setCell ⟨s1, 0, none⟩ (.int .i64 6)).setCell ⟨s1, 9, none⟩ (.int .u32 n9)).setCell ⟨s1, 10, none⟩ (.int .u32 ((c.adv + 1) % 4294967296))) := ⟨_, rfl⟩
      obtain ⟨K, hK⟩ : ∃ K, K = ({ c with st := 6, rcv := n9, adv := (c.adv + 1) % 4294967296 } : Ct).cells := ⟨_, rfl⟩
      have LK : Hid (K.length = 11) := by rw [hK]; exact rfl
      have OK : Hid (∀ u ∈ K, u.oneCell' = true) := by rw [hK]; exact ct_one _
      have BA : Hid (But (Only s1) w2 w8) := by rw [hwa]; exact ((((But.refl (Only s1) w2).setOf (b := s1) rfl 0 (.int .i64 6)).setOf (b := s1) rfl 9 (.int .u32 n9)).setOf (b := s1) rfl 10 (.int .u32 ((c.adv + 1) % 4294967296)))
      have OA : Hid (CellsAt w8 s1 0 K) := by rw [hK, hwa]; exact (((O1.out.one (k := 0) (c' := { c with st := 6 }) (by decide) (.int .i64 6) rfl).one (k := 9) (c' := { c with st := 6, rcv := n9 }) (by decide) (.int .u32 n9) rfl).one (k := 10) (c' := { c with st := 6, rcv := n9, adv := (c.adv + 1) % 4294967296 }) (by decide) (.int .u32 ((c.adv + 1) % 4294967296)) rfl).1
      have OB : Hid (OwnC w8 s2 zCt) := O2.out.but BA.out (fun e => N12.out (Eq.symm e))
      have CB := hide OB.out.1
      have FB := hide OB.out.2.1
      obtain ⟨w9, hw9⟩ : ∃ w9, w9 = w8.setCells s2 0 K := ⟨_, rfl⟩
      have C9 : Hid (CellsAt w9 s2 0 K) := by rw [hw9]; exact CB.out.stored (by rw [LK.out]; rfl)
      have B9 : Hid (Below w.heap.size w w9) := by
        have h1 := B2.out.trans (BA.out.below B2.out.size (fun g hg e => by have e : g = s1 := e; have := Z12.out.1; omega))
        rw [hw9]
        exact h1.trans ((But.cells s2 K 0 w8).below h1.size (fun g hg e => by have e : g = s2 := e; have := Z12.out.2; omega))
      have hwa' := hwa.symm
      have hw9' := hw9.symm
      have HK := hide hK
      clear hwa hw9 hK BA OB
      go_wp2_with (first | refine wpList_loadA rfl 24 11 aggCt sizCt _ rfl s1 0 rfl K LK.out OA.out ?_ | (refine wpList_storeA rfl 24 11 sizCt _ _ rfl s2 0 rfl K zCt.cells rfl LK.out rfl CB.out FB.out OK.out ?_; intro _; rw [hw9']))
      refine bodyPost_ret (v := .agg K.toArray) (results_A rfl _ _ s2 _ rfl (run_loadVarA 24 11 aggCt sizCt s2 0 _ LK.out C9.out)) rfl ?_
      exact ⟨by rw [HK.out, HR.out, ES.out, if_pos DD], B9.out⟩
    | false =>
      have DD : ¬ 0 < dif n9 c.adv := of_decide_eq_false HD.out.symm
      obtain ⟨w8, hwa⟩ : ∃ w3, w3 = ((w2.setCell ⟨s1, 0, none⟩ (.int .i64 6)).setCell ⟨s1, 9, none⟩ (.int .u32 n9)) := ⟨_, rfl⟩
      obtain ⟨K, hK⟩ : ∃ K, K = ({ c with st := 6, rcv := n9 } : Ct).cells := ⟨_, rfl⟩
      have LK : Hid (K.length = 11) := by rw [hK]; exact rfl
      have OK : Hid (∀ u ∈ K, u.oneCell' = true) := by rw [hK]; exact ct_one _
      have BA : Hid (But (Only s1) w2 w8) := by rw [hwa]; exact (((But.refl (Only s1) w2).setOf (b := s1) rfl 0 (.int .i64 6)).setOf (b := s1) rfl 9 (.int .u32 n9))
      have OA : Hid (CellsAt w8 s1 0 K) := by rw [hK, hwa]; exact ((O1.out.one (k := 0) (c' := { c with st := 6 }) (by decide) (.int .i64 6) rfl).one (k := 9) (c' := { c with st := 6, rcv := n9 }) (by decide) (.int .u32 n9) rfl).1
      have OB : Hid (OwnC w8 s2 zCt) := O2.out.but BA.out (fun e => N12.out (Eq.symm e))
      have CB := hide OB.out.1
      have FB := hide OB.out.2.1
      obtain ⟨w9, hw9⟩ : ∃ w9, w9 = w8.setCells s2 0 K := ⟨_, rfl⟩
      have C9 : Hid (CellsAt w9 s2 0 K) := by rw [hw9]; exact CB.out.stored (by rw [LK.out]; rfl)
      have B9 : Hid (Below w.heap.size w w9) := by
        have h1 := B2.out.trans (BA.out.below B2.out.size (fun g hg e => by have e : g = s1 := e; have := Z12.out.1; omega))
        rw [hw9]
        exact h1.trans ((But.cells s2 K 0 w8).below h1.size (fun g hg e => by have e : g = s2 := e; have := Z12.out.2; omega))
      have hwa' := hwa.symm
      have hw9' := hw9.symm
      have HK := hide hK
      clear hwa hw9 hK BA OB
      go_wp2_with (first | refine wpList_loadA rfl 24 11 aggCt sizCt _ rfl s1 0 rfl K LK.out OA.out ?_ | (refine wpList_storeA rfl 24 11 sizCt _ _ rfl s2 0 rfl K zCt.cells rfl LK.out rfl CB.out FB.out OK.out ?_; intro _; rw [hw9']))
      refine bodyPost_ret (v := .agg K.toArray) (results_A rfl _ _ s2 _ rfl (run_loadVarA 24 11 aggCt sizCt s2 0 _ LK.out C9.out)) rfl ?_
      exact ⟨by rw [HK.out, HR.out, ES.out, if_neg (by omega)], B9.out⟩
  by_cases h4 : c.st = 4
  · skip
    have ES : Hid (endS c.st = 7) := by unfold Hid endS; rw [if_neg (fun k => k.elim h2 h3), if_pos h4]
    go_wp2_with fail
    refine (IB.out _).mono ?_
    rintro _ wz ⟨rfl, hwz⟩
    subst hwz
    cases d with
    | true =>
      have DD : 0 < dif n9 c.adv := of_decide_eq_true HD.out.symm
      obtain ⟨w8, hwa⟩ : ∃ w3, w3 = (((w2.setCell ⟨s1, 0, none⟩ (.int .i64 7)).setCell ⟨s1, 9, none⟩ (.int .u32 n9)).setCell ⟨s1, 10, none⟩ (.int .u32 ((c.adv + 1) % 4294967296))) := ⟨_, rfl⟩
      obtain ⟨K, hK⟩ : ∃ K, K = ({ c with st := 7, rcv := n9, adv := (c.adv + 1) % 4294967296 } : Ct).cells := ⟨_, rfl⟩
      have LK : Hid (K.length = 11) := by rw [hK]; exact rfl
      have OK : Hid (∀ u ∈ K, u.oneCell' = true) := by rw [hK]; exact ct_one _
      have BA : Hid (But (Only s1) w2 w8) := by rw [hwa]; exact ((((But.refl (Only s1) w2).setOf (b := s1) rfl 0 (.int .i64 7)).setOf (b := s1) rfl 9 (.int .u32 n9)).setOf (b := s1) rfl 10 (.int .u32 ((c.adv + 1) % 4294967296)))
      have OA : Hid (CellsAt w8 s1 0 K) := by rw [hK, hwa]; exact (((O1.out.one (k := 0) (c' := { c with st := 7 }) (by decide) (.int .i64 7) rfl).one (k := 9) (c' := { c with st := 7, rcv := n9 }) (by decide) (.int .u32 n9) rfl).one (k := 10) (c' := { c with st := 7, rcv := n9, adv := (c.adv + 1) % 4294967296 }) (by decide) (.int .u32 ((c.adv + 1) % 4294967296)) rfl).1
      have OB : Hid (OwnC w8 s2 zCt) := O2.out.but BA.out (fun e => N12.out (Eq.symm e))
      have CB := hide OB.out.1
      have FB := hide OB.out.2.1
      obtain ⟨w9, hw9⟩ : ∃ w9, w9 = w8.setCells s2 0 K := ⟨_, rfl⟩
      have C9 : Hid (CellsAt w9 s2 0 K) := by rw [hw9]; exact CB.out.stored (by rw [LK.out]; rfl)
      have B9 : Hid (Below w.heap.size w w9) := by
        have h1 := B2.out.trans (BA.out.below B2.out.size (fun g hg e => by have e : g = s1 := e; have := Z12.out.1; omega))
        rw [hw9]
        exact h1.trans ((But.cells s2 K 0 w8).below h1.size (fun g hg e => by have e : g = s2 := e; have := Z12.out.2; omega))
      have hwa' := hwa.symm
      have hw9' := hw9.symm
      have HK := hide hK
      clear hwa hw9 hK BA OB
      go_wp2_with (first | refine wpList_loadA rfl 24 11 aggCt sizCt _ rfl s1 0 rfl K LK.out OA.out ?_ | (refine wpList_storeA rfl 24 11 sizCt _ _ rfl s2 0 rfl K zCt.cells rfl LK.out rfl CB.out FB.out OK.out ?_; intro _; rw [hw9']))
      refine bodyPost_ret (v := .agg K.toArray) (results_A rfl _ _ s2 _ rfl (run_loadVarA 24 11 aggCt sizCt s2 0 _ LK.out C9.out)) rfl ?_
      exact ⟨by rw [HK.out, HR.out, ES.out, if_pos DD], B9.out⟩
    | false =>
      have DD : ¬ 0 < dif n9 c.adv := of_decide_eq_false HD.out.symm
      obtain ⟨w8, hwa⟩ : ∃ w3, w3 = ((w2.setCell ⟨s1, 0, none⟩ (.int .i64 7)).setCell ⟨s1, 9, none⟩ (.int .u32 n9)) := ⟨_, rfl⟩
      obtain ⟨K, hK⟩ : ∃ K, K = ({ c with st := 7, rcv := n9 } : Ct).cells := ⟨_, rfl⟩
      have LK : Hid (K.length = 11) := by rw [hK]; exact rfl
      have OK : Hid (∀ u ∈ K, u.oneCell' = true) := by rw [hK]; exact ct_one _
      have BA : Hid (But (Only s1) w2 w8) := by rw [hwa]; exact (((But.refl (Only s1) w2).setOf (b := s1) rfl 0 (.int .i64 7)).setOf (b := s1) rfl 9 (.int .u32 n9))
      have OA : Hid (CellsAt w8 s1 0 K) := by rw [hK, hwa]; exact ((O1.out.one (k := 0) (c' := { c with st := 7 }) (by decide) (.int .i64 7) rfl).one (k := 9) (c' := { c with st := 7, rcv := n9 }) (by decide) (.int .u32 n9) rfl).1
      have OB : Hid (OwnC w8 s2 zCt) := O2.out.but BA.out (fun e => N12.out (Eq.symm e))
      have CB := hide OB.out.1
      have FB := hide OB.out.2.1
      obtain ⟨w9, hw9⟩ : ∃ w9, w9 = w8.setCells s2 0 K := ⟨_, rfl⟩
      have C9 : Hid (CellsAt w9 s2 0 K) := by rw [hw9]; exact CB.out.stored (by rw [LK.out]; rfl)
      have B9 : Hid (Below w.heap.size w w9) := by
        have h1 := B2.out.trans (BA.out.below B2.out.size (fun g hg e => by have e : g = s1 := e; have := Z12.out.1; omega))
        rw [hw9]
        exact h1.trans ((But.cells s2 K 0 w8).below h1.size (fun g hg e => by have e : g = s2 := e; have := Z12.out.2; omega))
      have hwa' := hwa.symm
      have hw9' := hw9.symm
      have HK := hide hK
      clear hwa hw9 hK BA OB
      go_wp2_with (first | refine wpList_loadA rfl 24 11 aggCt sizCt _ rfl s1 0 rfl K LK.out OA.out ?_ | (refine wpList_storeA rfl 24 11 sizCt _ _ rfl s2 0 rfl K zCt.cells rfl LK.out rfl CB.out FB.out OK.out ?_; intro _; rw [hw9']))
      refine bodyPost_ret (v := .agg K.toArray) (results_A rfl _ _ s2 _ rfl (run_loadVarA 24 11 aggCt sizCt s2 0 _ LK.out C9.out)) rfl ?_
      exact ⟨by rw [HK.out, HR.out, ES.out, if_neg (by omega)], B9.out⟩
  by_cases h5 : c.st = 5
  · skip
    have ES : Hid (endS c.st = 9) := by unfold Hid endS; rw [if_neg (fun k => k.elim h2 h3), if_neg h4, if_pos h5]
    go_wp2_with fail
    refine (IB.out _).mono ?_
    rintro _ wz ⟨rfl, hwz⟩
    subst hwz
    cases d with
    | true =>
      have DD : 0 < dif n9 c.adv := of_decide_eq_true HD.out.symm
      obtain ⟨w8, hwa⟩ : ∃ w3, w3 = (((w2.setCell ⟨s1, 0, none⟩ (.int .i64 9)).setCell ⟨s1, 9, none⟩ (.int .u32 n9)).setCell ⟨s1, 10, none⟩ (.int .u32 ((c.adv + 1) % 4294967296))) := ⟨_, rfl⟩
      obtain ⟨K, hK⟩ : ∃ K, K = ({ c with st := 9, rcv := n9, adv := (c.adv + 1) % 4294967296 } : Ct).cells := ⟨_, rfl⟩
      have LK : Hid (K.length = 11) := by rw [hK]; exact rfl
      have OK : Hid (∀ u ∈ K, u.oneCell' = true) := by rw [hK]; exact ct_one _
      have BA : Hid (But (Only s1) w2 w8) := by rw [hwa]; exact ((((But.refl (Only s1) w2).setOf (b := s1) rfl 0 (.int .i64 9)).setOf (b := s1) rfl 9 (.int .u32 n9)).setOf (b := s1) rfl 10 (.int .u32 ((c.adv + 1) % 4294967296)))
      have OA : Hid (CellsAt w8 s1 0 K) := by rw [hK, hwa]; exact (((O1.out.one (k := 0) (c' := { c with st := 9 }) (by decide) (.int .i64 9) rfl).one (k := 9) (c' := { c with st := 9, rcv := n9 }) (by decide) (.int .u32 n9) rfl).one (k := 10) (c' := { c with st := 9, rcv := n9, adv := (c.adv + 1) % 4294967296 }) (by decide) (.int .u32 ((c.adv + 1) % 4294967296)) rfl).1
      have OB : Hid (OwnC w8 s2 zCt) := O2.out.but BA.out (fun e => N12.out (Eq.symm e))
      have CB := hide OB.out.1
      have FB := hide OB.out.2.1
      obtain ⟨w9, hw9⟩ : ∃ w9, w9 = w8.setCells s2 0 K := ⟨_, rfl⟩
      have C9 : Hid (CellsAt w9 s2 0 K) := by rw [hw9]; exact CB.out.stored (by rw [LK.out]; rfl)
      have B9 : Hid (Below w.heap.size w w9) := by
        have h1 := B2.out.trans (BA.out.below B2.out.size (fun g hg e => by have e : g = s1 := e; have := Z12.out.1; omega))
        rw [hw9]
        exact h1.trans ((But.cells s2 K 0 w8).below h1.size (fun g hg e => by have e : g = s2 := e; have := Z12.out.2; omega))
      have hwa' := hwa.symm
      have hw9' := hw9.symm
      have HK := hide hK
      clear hwa hw9 hK BA OB
      go_wp2_with (first | refine wpList_loadA rfl 24 11 aggCt sizCt _ rfl s1 0 rfl K LK.out OA.out ?_ | (refine wpList_storeA rfl 24 11 sizCt _ _ rfl s2 0 rfl K zCt.cells rfl LK.out rfl CB.out FB.out OK.out ?_; intro _; rw [hw9']))
      refine bodyPost_ret (v := .agg K.toArray) (results_A rfl _ _ s2 _ rfl (run_loadVarA 24 11 aggCt sizCt s2 0 _ LK.out C9.out)) rfl ?_
      exact ⟨by rw [HK.out, HR.out, ES.out, if_pos DD], B9.out⟩
    | false =>
      have DD : ¬ 0 < dif n9 c.adv := of_decide_eq_false HD.out.symm
      obtain ⟨w8, hwa⟩ : ∃ w3, w3 = ((w2.setCell ⟨s1, 0, none⟩ (.int .i64 9)).setCell ⟨s1, 9, none⟩ (.int .u32 n9)) := ⟨_, rfl⟩
      obtain ⟨K, hK⟩ : ∃ K, K = ({ c with st := 9, rcv := n9 } : Ct).cells := ⟨_, rfl⟩
      have LK : Hid (K.length = 11) := by rw [hK]; exact rfl
      have OK : Hid (∀ u ∈ K, u.oneCell' = true) := by rw [hK]; exact ct_one _
      have BA : Hid (But (Only s1) w2 w8) := by rw [hwa]; exact (((But.refl (Only s1) w2).setOf (b := s1) rfl 0 (.int .i64 9)).setOf (b := s1) rfl 9 (.int .u32 n9))
      have OA : Hid (CellsAt w8 s1 0 K) := by rw [hK, hwa]; exact ((O1.out.one (k := 0) (c' := { c with st := 9 }) (by decide) (.int .i64 9) rfl).one (k := 9) (c' := { c with st := 9, rcv := n9 }) (by decide) (.int .u32 n9) rfl).1
      have OB : Hid (OwnC w8 s2 zCt) := O2.out.but BA.out (fun e => N12.out (Eq.symm e))
      have CB := hide OB.out.1
      have FB := hide OB.out.2.1
      obtain ⟨w9, hw9⟩ : ∃ w9, w9 = w8.setCells s2 0 K := ⟨_, rfl⟩
      have C9 : Hid (CellsAt w9 s2 0 K) := by rw [hw9]; exact CB.out.stored (by rw [LK.out]; rfl)
      have B9 : Hid (Below w.heap.size w w9) := by
        have h1 := B2.out.trans (BA.out.below B2.out.size (fun g hg e => by have e : g = s1 := e; have := Z12.out.1; omega))
        rw [hw9]
        exact h1.trans ((But.cells s2 K 0 w8).below h1.size (fun g hg e => by have e : g = s2 := e; have := Z12.out.2; omega))
      have hwa' := hwa.symm
      have hw9' := hw9.symm
      have HK := hide hK
      clear hwa hw9 hK BA OB
      go_wp2_with (first | refine wpList_loadA rfl 24 11 aggCt sizCt _ rfl s1 0 rfl K LK.out OA.out ?_ | (refine wpList_storeA rfl 24 11 sizCt _ _ rfl s2 0 rfl K zCt.cells rfl LK.out rfl CB.out FB.out OK.out ?_; intro _; rw [hw9']))
      refine bodyPost_ret (v := .agg K.toArray) (results_A rfl _ _ s2 _ rfl (run_loadVarA 24 11 aggCt sizCt s2 0 _ LK.out C9.out)) rfl ?_
      exact ⟨by rw [HK.out, HR.out, ES.out, if_neg (by omega)], B9.out⟩
  have ES : Hid (endS c.st = c.st) := by unfold Hid endS; rw [if_neg (fun k => k.elim h2 h3), if_neg h4, if_neg h5]
  go_wp2_with fail
  refine (IB.out _).mono ?_
  rintro _ wz ⟨rfl, hwz⟩
  subst hwz
  cases d with
  | true =>
    have DD : 0 < dif n9 c.adv := of_decide_eq_true HD.out.symm
    obtain ⟨w8, hwa⟩ : ∃ w3, w3 = ((w2.setCell ⟨s1, 9, none⟩ (.int .u32 n9)).setCell ⟨s1, 10, none⟩ (.int .u32 ((c.adv + 1) % 4294967296))) := ⟨_, rfl⟩
    obtain ⟨K, hK⟩ : ∃ K, K = ({ c with rcv := n9, adv := (c.adv + 1) % 4294967296 } : Ct).cells := ⟨_, rfl⟩
    have LK : Hid (K.length = 11) := by rw [hK]; exact rfl
    have OK : Hid (∀ u ∈ K, u.oneCell' = true) := by rw [hK]; exact ct_one _
    have BA : Hid (But (Only s1) w2 w8) := by rw [hwa]; exact (((But.refl (Only s1) w2).setOf (b := s1) rfl 9 (.int .u32 n9)).setOf (b := s1) rfl 10 (.int .u32 ((c.adv + 1) % 4294967296)))
    have OA : Hid (CellsAt w8 s1 0 K) := by rw [hK, hwa]; exact ((O1.out.one (k := 9) (c' := { c with rcv := n9 }) (by decide) (.int .u32 n9) rfl).one (k := 10) (c' := { c with rcv := n9, adv := (c.adv + 1) % 4294967296 }) (by decide) (.int .u32 ((c.adv + 1) % 4294967296)) rfl).1
    have OB : Hid (OwnC w8 s2 zCt) := O2.out.but BA.out (fun e => N12.out (Eq.symm e))
    have CB := hide OB.out.1
    have FB := hide OB.out.2.1
    obtain ⟨w9, hw9⟩ : ∃ w9, w9 = w8.setCells s2 0 K := ⟨_, rfl⟩
    have C9 : Hid (CellsAt w9 s2 0 K) := by rw [hw9]; exact CB.out.stored (by rw [LK.out]; rfl)
    have B9 : Hid (Below w.heap.size w w9) := by
      have h1 := B2.out.trans (BA.out.below B2.out.size (fun g hg e => by have e : g = s1 := e; have := Z12.out.1; omega))
      rw [hw9]
      exact h1.trans ((But.cells s2 K 0 w8).below h1.size (fun g hg e => by have e : g = s2 := e; have := Z12.out.2; omega))
    have hwa' := hwa.symm
    have hw9' := hw9.symm
    have HK := hide hK
    clear hwa hw9 hK BA OB
    go_wp2_with (first | refine wpList_loadA rfl 24 11 aggCt sizCt _ rfl s1 0 rfl K LK.out OA.out ?_ | (refine wpList_storeA rfl 24 11 sizCt _ _ rfl s2 0 rfl K zCt.cells rfl LK.out rfl CB.out FB.out OK.out ?_; intro _; rw [hw9']))
    refine bodyPost_ret (v := .agg K.toArray) (results_A rfl _ _ s2 _ rfl (run_loadVarA 24 11 aggCt sizCt s2 0 _ LK.out C9.out)) rfl ?_
    exact ⟨by rw [HK.out, HR.out, ES.out, if_pos DD], B9.out⟩
  | false =>
    have DD : ¬ 0 < dif n9 c.adv := of_decide_eq_false HD.out.symm
    obtain ⟨w8, hwa⟩ : ∃ w3, w3 = (w2.setCell ⟨s1, 9, none⟩ (.int .u32 n9)) := ⟨_, rfl⟩
    obtain ⟨K, hK⟩ : ∃ K, K = ({ c with rcv := n9 } : Ct).cells := ⟨_, rfl⟩
    have LK : Hid (K.length = 11) := by rw [hK]; exact rfl
    have OK : Hid (∀ u ∈ K, u.oneCell' = true) := by rw [hK]; exact ct_one _
    have BA : Hid (But (Only s1) w2 w8) := by rw [hwa]; exact ((But.refl (Only s1) w2).setOf (b := s1) rfl 9 (.int .u32 n9))
    have OA : Hid (CellsAt w8 s1 0 K) := by rw [hK, hwa]; exact (O1.out.one (k := 9) (c' := { c with rcv := n9 }) (by decide) (.int .u32 n9) rfl).1
    have OB : Hid (OwnC w8 s2 zCt) := O2.out.but BA.out (fun e => N12.out (Eq.symm e))
    have CB := hide OB.out.1
    have FB := hide OB.out.2.1
    obtain ⟨w9, hw9⟩ : ∃ w9, w9 = w8.setCells s2 0 K := ⟨_, rfl⟩
    have C9 : Hid (CellsAt w9 s2 0 K) := by rw [hw9]; exact CB.out.stored (by rw [LK.out]; rfl)
    have B9 : Hid (Below w.heap.size w w9) := by
      have h1 := B2.out.trans (BA.out.below B2.out.size (fun g hg e => by have e : g = s1 := e; have := Z12.out.1; omega))
      rw [hw9]
      exact h1.trans ((But.cells s2 K 0 w8).below h1.size (fun g hg e => by have e : g = s2 := e; have := Z12.out.2; omega))
    have hwa' := hwa.symm
    have hw9' := hw9.symm
    have HK := hide hK
    clear hwa hw9 hK BA OB
    go_wp2_with (first | refine wpList_loadA rfl 24 11 aggCt sizCt _ rfl s1 0 rfl K LK.out OA.out ?_ | (refine wpList_storeA rfl 24 11 sizCt _ _ rfl s2 0 rfl K zCt.cells rfl LK.out rfl CB.out FB.out OK.out ?_; intro _; rw [hw9']))
    refine bodyPost_ret (v := .agg K.toArray) (results_A rfl _ _ s2 _ rfl (run_loadVarA 24 11 aggCt sizCt s2 0 _ LK.out C9.out)) rfl ?_
    exact ⟨by rw [HK.out, HR.out, ES.out, if_neg (by omega)], B9.out⟩
set_option maxHeartbeats 8000000 in
theorem Shut_any (c : Ct) (w : World) : Calls Try.prog 14 #[.agg c.cells.toArray] w fun e w' => e = .returned (.tuple #[.agg (shutC c).cells.toArray, .int .i64 (shutE c)]) ∧ Below w.heap.size w w' := by
  obtain ⟨w1, w2, s1, s2, hs1, hw1, hs2, hw2, o1, o2, n12, z1, z2, b2⟩ := boxCC w c
  rw [show (Value.agg c.cells.toArray) = .agg #[.int .i64 c.st, .int .u32 c.iss, .int .u32 c.una, .int .u32 c.nxt, .bool c.fs, .int .i64 c.wnd, .int .u32 c.wl1, .int .u32 c.wl2, .int .u32 c.irs, .int .u32 c.rcv, .int .u32 c.adv] from rfl]
  have x0 : w2.cell? ⟨s1, 0, none⟩ = some (.int .i64 c.st) := o1.1 0 _ rfl
  have f0 := o1.2.1 0
  have x3 : w2.cell? ⟨s1, 3, none⟩ = some (.int .u32 c.nxt) := o1.1 3 _ rfl
  have f3 := o1.2.1 3
  have x4 : w2.cell? ⟨s1, 4, none⟩ = some (.bool c.fs) := o1.1 4 _ rfl
  have f4 := o1.2.1 4
  have hs1' := hs1.symm
  have hw1' := hw1.symm
  have hs2' := hs2.symm
  have hw2' := hw2.symm
  have O1 := hide o1
  have O2 := hide o2
  have N12 := hide n12
  have Z12 : Hid (w.heap.size ≤ s1 ∧ w.heap.size ≤ s2) := ⟨z1, z2⟩
  have B2 := hide b2
  clear hs1 hw1 hs2 hw2 o1 o2 n12 z1 z2 b2
  obtain ⟨R, hR⟩ : ∃ R, R = shutC c := ⟨_, rfl⟩
  obtain ⟨E, hE⟩ : ∃ E, E = shutE c := ⟨_, rfl⟩
  rw [← hR, ← hE]
  have HE := hide hE
  have HR := hide hR
  obtain ⟨fs, hfs⟩ : ∃ fs, fs = c.fs := ⟨_, rfl⟩
  have HF := hide hfs
  rw [← hfs] at x4 hw1' ⊢
  clear hR hE hfs
  go_enter Try.func14, Try.ntmps14
  go_upto_region 1 with fail
  clear hs1' hw1' hs2' hw2'
  cases fs with
  | true =>
    have EE : E = 212 := by rw [HE.out]; unfold shutE; rw [if_neg (fun k => by have := k.1; rw [← HF.out] at this; cases this)]
    have ER : R = zCt := by rw [HR.out]; unfold shutC; rw [← HE.out, EE]; rfl
    subst EE
    obtain ⟨K, hK⟩ : ∃ K, K = zCt.cells := ⟨_, rfl⟩
    have LK : Hid (K.length = 11) := by rw [hK]; exact rfl
    have OK : Hid (∀ u ∈ K, u.oneCell' = true) := by rw [hK]; exact ct_one _
    have CB := hide O2.out.1
    have FB := hide O2.out.2.1
    obtain ⟨w9, hw9⟩ : ∃ w9, w9 = w2.setCells s2 0 K := ⟨_, rfl⟩
    have C9 : Hid (CellsAt w9 s2 0 K) := by rw [hw9]; exact CB.out.stored (by rw [LK.out]; rfl)
    have B9 : Hid (Below w.heap.size w w9) := by rw [hw9]; exact B2.out.trans ((But.cells s2 K 0 w2).below B2.out.size (fun g hg e => by have e : g = s2 := e; have := Z12.out.2; omega))
    have EK : Hid (Value.agg #[.int .i64 0, .int .u32 0, .int .u32 0, .int .u32 0, .bool false, .int .i64 0, .int .u32 0, .int .u32 0, .int .u32 0, .int .u32 0, .int .u32 0] = .agg K.toArray) := by rw [hK]; exact rfl
    have hw9' := hw9.symm
    have HK := hide hK
    clear hw9 hK
    go_wp2_with (refine wpList_storeA rfl 24 11 sizCt _ _ rfl s2 0 rfl K zCt.cells EK.out LK.out rfl CB.out FB.out OK.out ?_; intro _; rw [hw9'])
    refine bodyPost_ret (v := .tuple #[.agg K.toArray, .int .i64 212]) (results_2 rfl _ _ s2 _ _ rfl rfl (run_loadVarA 24 11 aggCt sizCt s2 0 _ LK.out C9.out)) rfl ?_
    exact ⟨by rw [HK.out, ER], B9.out⟩
  | false =>
    by_cases h2 : c.st = 2
    · skip
      have EE : E = 0 := by rw [HE.out]; unfold shutE; rw [if_pos ⟨HF.out.symm, .inl h2⟩]
      have ER : R = { c with st := 4, fs := true, nxt := (c.nxt + 1) % 4294967296 } := by rw [HR.out]; unfold shutC; rw [← HE.out, EE, if_pos rfl, if_neg (by omega)]
      subst EE
      have HER := hide ER
      clear ER
      obtain ⟨w8, hwa⟩ : ∃ w3, w3 = (((w2.setCell ⟨s1, 0, none⟩ (.int .i64 4)).setCell ⟨s1, 4, none⟩ (.bool true)).setCell ⟨s1, 3, none⟩ (.int .u32 ((c.nxt + 1) % 4294967296))) := ⟨_, rfl⟩
      obtain ⟨K, hK⟩ : ∃ K, K = ({ c with st := 4, fs := true, nxt := (c.nxt + 1) % 4294967296 } : Ct).cells := ⟨_, rfl⟩
      have LK : Hid (K.length = 11) := by rw [hK]; exact rfl
      have OK : Hid (∀ u ∈ K, u.oneCell' = true) := by rw [hK]; exact ct_one _
      have BA : Hid (But (Only s1) w2 w8) := by rw [hwa]; exact ((((But.refl (Only s1) w2).setOf (b := s1) rfl 0 (.int .i64 4)).setOf (b := s1) rfl 4 (.bool true)).setOf (b := s1) rfl 3 (.int .u32 ((c.nxt + 1) % 4294967296)))
      have OA : Hid (CellsAt w8 s1 0 K) := by rw [hK, hwa]; exact (((O1.out.one (k := 0) (c' := { c with st := 4 }) (by decide) (.int .i64 4) rfl).one (k := 4) (c' := { c with st := 4, fs := true }) (by decide) (.bool true) rfl).one (k := 3) (c' := { c with st := 4, fs := true, nxt := (c.nxt + 1) % 4294967296 }) (by decide) (.int .u32 ((c.nxt + 1) % 4294967296)) rfl).1
      have OB : Hid (OwnC w8 s2 zCt) := O2.out.but BA.out (fun e => N12.out (Eq.symm e))
      have CB := hide OB.out.1
      have FB := hide OB.out.2.1
      obtain ⟨w9, hw9⟩ : ∃ w9, w9 = w8.setCells s2 0 K := ⟨_, rfl⟩
      have C9 : Hid (CellsAt w9 s2 0 K) := by rw [hw9]; exact CB.out.stored (by rw [LK.out]; rfl)
      have B9 : Hid (Below w.heap.size w w9) := by
        have h1 := B2.out.trans (BA.out.below B2.out.size (fun g hg e => by have e : g = s1 := e; have := Z12.out.1; omega))
        rw [hw9]
        exact h1.trans ((But.cells s2 K 0 w8).below h1.size (fun g hg e => by have e : g = s2 := e; have := Z12.out.2; omega))
      have hwa' := hwa.symm
      have hw9' := hw9.symm
      have HK := hide hK
      clear hwa hw9 hK BA OB
      go_wp2_with (first | refine wpList_loadA rfl 24 11 aggCt sizCt _ rfl s1 0 rfl K LK.out OA.out ?_ | (refine wpList_storeA rfl 24 11 sizCt _ _ rfl s2 0 rfl K zCt.cells rfl LK.out rfl CB.out FB.out OK.out ?_; intro _; rw [hw9']))
      refine bodyPost_ret (v := .tuple #[.agg K.toArray, .int .i64 0]) (results_2 rfl _ _ s2 _ _ rfl rfl (run_loadVarA 24 11 aggCt sizCt s2 0 _ LK.out C9.out)) rfl ?_
      exact ⟨by rw [HK.out, HER.out], B9.out⟩
    by_cases h3 : c.st = 3
    · skip
      have EE : E = 0 := by rw [HE.out]; unfold shutE; rw [if_pos ⟨HF.out.symm, .inr (.inl h3)⟩]
      have ER : R = { c with st := 4, fs := true, nxt := (c.nxt + 1) % 4294967296 } := by rw [HR.out]; unfold shutC; rw [← HE.out, EE, if_pos rfl, if_neg (by omega)]
      subst EE
      have HER := hide ER
      clear ER
      obtain ⟨w8, hwa⟩ : ∃ w3, w3 = (((w2.setCell ⟨s1, 0, none⟩ (.int .i64 4)).setCell ⟨s1, 4, none⟩ (.bool true)).setCell ⟨s1, 3, none⟩ (.int .u32 ((c.nxt + 1) % 4294967296))) := ⟨_, rfl⟩
      obtain ⟨K, hK⟩ : ∃ K, K = ({ c with st := 4, fs := true, nxt := (c.nxt + 1) % 4294967296 } : Ct).cells := ⟨_, rfl⟩
      have LK : Hid (K.length = 11) := by rw [hK]; exact rfl
      have OK : Hid (∀ u ∈ K, u.oneCell' = true) := by rw [hK]; exact ct_one _
      have BA : Hid (But (Only s1) w2 w8) := by rw [hwa]; exact ((((But.refl (Only s1) w2).setOf (b := s1) rfl 0 (.int .i64 4)).setOf (b := s1) rfl 4 (.bool true)).setOf (b := s1) rfl 3 (.int .u32 ((c.nxt + 1) % 4294967296)))
      have OA : Hid (CellsAt w8 s1 0 K) := by rw [hK, hwa]; exact (((O1.out.one (k := 0) (c' := { c with st := 4 }) (by decide) (.int .i64 4) rfl).one (k := 4) (c' := { c with st := 4, fs := true }) (by decide) (.bool true) rfl).one (k := 3) (c' := { c with st := 4, fs := true, nxt := (c.nxt + 1) % 4294967296 }) (by decide) (.int .u32 ((c.nxt + 1) % 4294967296)) rfl).1
      have OB : Hid (OwnC w8 s2 zCt) := O2.out.but BA.out (fun e => N12.out (Eq.symm e))
      have CB := hide OB.out.1
      have FB := hide OB.out.2.1
      obtain ⟨w9, hw9⟩ : ∃ w9, w9 = w8.setCells s2 0 K := ⟨_, rfl⟩
      have C9 : Hid (CellsAt w9 s2 0 K) := by rw [hw9]; exact CB.out.stored (by rw [LK.out]; rfl)
      have B9 : Hid (Below w.heap.size w w9) := by
        have h1 := B2.out.trans (BA.out.below B2.out.size (fun g hg e => by have e : g = s1 := e; have := Z12.out.1; omega))
        rw [hw9]
        exact h1.trans ((But.cells s2 K 0 w8).below h1.size (fun g hg e => by have e : g = s2 := e; have := Z12.out.2; omega))
      have hwa' := hwa.symm
      have hw9' := hw9.symm
      have HK := hide hK
      clear hwa hw9 hK BA OB
      go_wp2_with (first | refine wpList_loadA rfl 24 11 aggCt sizCt _ rfl s1 0 rfl K LK.out OA.out ?_ | (refine wpList_storeA rfl 24 11 sizCt _ _ rfl s2 0 rfl K zCt.cells rfl LK.out rfl CB.out FB.out OK.out ?_; intro _; rw [hw9']))
      refine bodyPost_ret (v := .tuple #[.agg K.toArray, .int .i64 0]) (results_2 rfl _ _ s2 _ _ rfl rfl (run_loadVarA 24 11 aggCt sizCt s2 0 _ LK.out C9.out)) rfl ?_
      exact ⟨by rw [HK.out, HER.out], B9.out⟩
    by_cases h6 : c.st = 6
    · skip
      have EE : E = 0 := by rw [HE.out]; unfold shutE; rw [if_pos ⟨HF.out.symm, .inr (.inr h6)⟩]
      have ER : R = { c with st := 8, fs := true, nxt := (c.nxt + 1) % 4294967296 } := by rw [HR.out]; unfold shutC; rw [← HE.out, EE, if_pos rfl, if_pos h6]
      subst EE
      have HER := hide ER
      clear ER
      obtain ⟨w8, hwa⟩ : ∃ w3, w3 = (((w2.setCell ⟨s1, 0, none⟩ (.int .i64 8)).setCell ⟨s1, 4, none⟩ (.bool true)).setCell ⟨s1, 3, none⟩ (.int .u32 ((c.nxt + 1) % 4294967296))) := ⟨_, rfl⟩
      obtain ⟨K, hK⟩ : ∃ K, K = ({ c with st := 8, fs := true, nxt := (c.nxt + 1) % 4294967296 } : Ct).cells := ⟨_, rfl⟩
      have LK : Hid (K.length = 11) := by rw [hK]; exact rfl
      have OK : Hid (∀ u ∈ K, u.oneCell' = true) := by rw [hK]; exact ct_one _
      have BA : Hid (But (Only s1) w2 w8) := by rw [hwa]; exact ((((But.refl (Only s1) w2).setOf (b := s1) rfl 0 (.int .i64 8)).setOf (b := s1) rfl 4 (.bool true)).setOf (b := s1) rfl 3 (.int .u32 ((c.nxt + 1) % 4294967296)))
      have OA : Hid (CellsAt w8 s1 0 K) := by rw [hK, hwa]; exact (((O1.out.one (k := 0) (c' := { c with st := 8 }) (by decide) (.int .i64 8) rfl).one (k := 4) (c' := { c with st := 8, fs := true }) (by decide) (.bool true) rfl).one (k := 3) (c' := { c with st := 8, fs := true, nxt := (c.nxt + 1) % 4294967296 }) (by decide) (.int .u32 ((c.nxt + 1) % 4294967296)) rfl).1
      have OB : Hid (OwnC w8 s2 zCt) := O2.out.but BA.out (fun e => N12.out (Eq.symm e))
      have CB := hide OB.out.1
      have FB := hide OB.out.2.1
      obtain ⟨w9, hw9⟩ : ∃ w9, w9 = w8.setCells s2 0 K := ⟨_, rfl⟩
      have C9 : Hid (CellsAt w9 s2 0 K) := by rw [hw9]; exact CB.out.stored (by rw [LK.out]; rfl)
      have B9 : Hid (Below w.heap.size w w9) := by
        have h1 := B2.out.trans (BA.out.below B2.out.size (fun g hg e => by have e : g = s1 := e; have := Z12.out.1; omega))
        rw [hw9]
        exact h1.trans ((But.cells s2 K 0 w8).below h1.size (fun g hg e => by have e : g = s2 := e; have := Z12.out.2; omega))
      have hwa' := hwa.symm
      have hw9' := hw9.symm
      have HK := hide hK
      clear hwa hw9 hK BA OB
      go_wp2_with (first | refine wpList_loadA rfl 24 11 aggCt sizCt _ rfl s1 0 rfl K LK.out OA.out ?_ | (refine wpList_storeA rfl 24 11 sizCt _ _ rfl s2 0 rfl K zCt.cells rfl LK.out rfl CB.out FB.out OK.out ?_; intro _; rw [hw9']))
      refine bodyPost_ret (v := .tuple #[.agg K.toArray, .int .i64 0]) (results_2 rfl _ _ s2 _ _ rfl rfl (run_loadVarA 24 11 aggCt sizCt s2 0 _ LK.out C9.out)) rfl ?_
      exact ⟨by rw [HK.out, HER.out], B9.out⟩
    have EE : E = 212 := by rw [HE.out]; unfold shutE; rw [if_neg (fun k => k.2.elim h2 (fun k => k.elim h3 h6))]
    have ER : R = zCt := by rw [HR.out]; unfold shutC; rw [← HE.out, EE]; rfl
    subst EE
    obtain ⟨K, hK⟩ : ∃ K, K = zCt.cells := ⟨_, rfl⟩
    have LK : Hid (K.length = 11) := by rw [hK]; exact rfl
    have OK : Hid (∀ u ∈ K, u.oneCell' = true) := by rw [hK]; exact ct_one _
    have CB := hide O2.out.1
    have FB := hide O2.out.2.1
    obtain ⟨w9, hw9⟩ : ∃ w9, w9 = w2.setCells s2 0 K := ⟨_, rfl⟩
    have C9 : Hid (CellsAt w9 s2 0 K) := by rw [hw9]; exact CB.out.stored (by rw [LK.out]; rfl)
    have B9 : Hid (Below w.heap.size w w9) := by rw [hw9]; exact B2.out.trans ((But.cells s2 K 0 w2).below B2.out.size (fun g hg e => by have e : g = s2 := e; have := Z12.out.2; omega))
    have EK : Hid (Value.agg #[.int .i64 0, .int .u32 0, .int .u32 0, .int .u32 0, .bool false, .int .i64 0, .int .u32 0, .int .u32 0, .int .u32 0, .int .u32 0, .int .u32 0] = .agg K.toArray) := by rw [hK]; exact rfl
    have hw9' := hw9.symm
    have HK := hide hK
    clear hw9 hK
    go_wp2_with (refine wpList_storeA rfl 24 11 sizCt _ _ rfl s2 0 rfl K zCt.cells EK.out LK.out rfl CB.out FB.out OK.out ?_; intro _; rw [hw9'])
    refine bodyPost_ret (v := .tuple #[.agg K.toArray, .int .i64 212]) (results_2 rfl _ _ s2 _ _ rfl rfl (run_loadVarA 24 11 aggCt sizCt s2 0 _ LK.out C9.out)) rfl ?_
    exact ⟨by rw [HK.out, ER], B9.out⟩
end Go.Proofs.Ytgdcdgofahhfdaa
