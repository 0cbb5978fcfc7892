
/-
  Package udp: behind, bindAny, Bind.
-/
import Derived.Test.YthjeaebpboilpaaU4
namespace Go.Proofs.Ythjeaebpboilpaa
open Go.RowKit Go.Shelf
open Go.ChangeMaps (setBlock)

def nxt (p : Int) : Int := if p = 65535 then 49152 else p + 1
theorem behind_any' (p : Int) (h1 : p ≤ 65535) (h0 : 0 ≤ p) (w : World) : Calls Try.prog 52 #[.int .i64 p] w fun e w' => e = .returned (.int .i64 (nxt p)) ∧ w' = w := by
  by_cases e : p = 65535
  · have e2 : nxt p = 49152 := by unfold nxt; rw [if_pos e]
    rw [e2]
    have z : (p == 65535) = true := by simpa using e
    clear e e2
    go_enter Try.func52, Try.ntmps52
    go_wp2
    go_ret
    exact ⟨rfl, rfl⟩
  · have e2 : nxt p = p + 1 := by unfold nxt; rw [if_neg e]
    rw [e2]
    have z : (p == 65535) = false := by simpa using e
    clear e e2
    go_enter Try.func52, Try.ntmps52
    go_wp2
    go_ret
    exact ⟨rfl, rfl⟩
theorem FF.bd {nx : Int} {L : List Po} {p : Int} (h : FF nx L p) (hp : p ≠ 0) (n0 : 49152 ≤ nx) (n1 : nx ≤ 65535) : 49152 ≤ p ∧ p ≤ 65535 ∧ otk p L = false := by
  rcases h with h | h | h
  · exact absurd h.1 hp
  · exact ⟨by have := h.1; omega, h.2.1, h.2.2.1⟩
  · exact ⟨h.1, by have := h.2.1; omega, h.2.2.1⟩
theorem otk_none {n : Int} {L : List Po} (h : otk n L = false) : ofd n L = none := by
  unfold otk at h
  cases hf : ofd n L with
  | none => rfl
  | some p => rw [hf] at h; cases h
/-- a map's entry more -/
theorem PoAt.more {w : World} {b ck : Nat} {L : List Po} {nx : Int} (h : PoAt w b L ck nx) (M : List Po) (k : Nat) : PoAt (setBlock w b (.map (M.map oent).toArray k)) b M k nx ∧ But (PoK b) w (setBlock w b (.map (M.map oent).toArray k)) := by
  have hb : But (Only b) w (setBlock w b (.map (M.map oent).toArray k)) := But.blockP (K := Only b) rfl _
  have hl := h.lt
  have k1 : ¬ Only b (b + 1) := fun e => by have e : b + 1 = b := e; omega
  exact ⟨⟨(hb.cell (p := ⟨b + 1, 0, none⟩) hl k1).trans h.c0, (hb.cell (p := ⟨b + 1, 1, none⟩) hl k1).trans h.c1, fun y => (hb.frozen (p := ⟨b + 1, y, none⟩) hl k1).trans (h.fz y), h.map.set M k⟩, hb.mono (fun g e => .inl e)⟩
theorem wpList_updP {w w' : World} {ops : Array Oper} {rest : List Oper} {o : Oper} {a : Act} {Q : Exit → Act → World → Prop} (hgd : o.guard = none) (T : TypeId) (x k v : Operand) (ho : o.op = .mapUpdate T x k v) (hd : o.dst = none) (mv kv vv : Value) (hx : a.eval x = mv) (hk : a.eval k = kv) (hv : a.eval v = vv)
    (hrun : (Instr.mapUpdate T mv kv vv).run Try.prog w = .ok () w') (h : wpList Try.prog ops Q rest a w') : wpList Try.prog ops Q (o :: rest) a w := by
  refine wpList_plain hgd fun K hK => ?_
  unfold Oper.wp
  simp only [execOp, ho, hx, hk, hv, Sem.run_bind, hrun, Result.andThen_ok, Sem.run_pure, Oper.upon]
  have := hK a w' (by simpa [Act.put, hd] using h)
  simpa [Act.put, hd] using this
set_option maxRecDepth 100000 in
set_option maxHeartbeats 4000000 in
theorem uBindAny_any {w : World} {b ck : Nat} {L : List Po} {nx : Int} (h : PoAt w b L ck nx) (n0 : 49152 ≤ nx) (n1 : nx ≤ 65535) (who : Int) : Calls Try.prog 37 #[.pointer (some ⟨b + 1, 0, none⟩), .int .i64 who] w fun e w' => ∃ p, FF nx L p ∧ ((p = 0 ∧ e = .returned (.tuple #[.int .i64 0, .int .i64 130]) ∧ w' = w) ∨ (p ≠ 0 ∧ e = .returned (.tuple #[.int .i64 p, .int .i64 0]) ∧ PoAt w' b (L ++ [⟨p, who, ck⟩]) (ck + 1) (nxt p) ∧ But (PoK b) w w')) := by
  have FR := hide (uFirst_any h n0 n1)
  have H := hide h
  have c0 := h.c0
  clear h
  go_enter Try.func37, Try.ntmps37
  go_wp2_with fail
  refine FR.out.mono ?_
  rintro _ wx ⟨⟨p, rfl, hF⟩, hw⟩
  rw [hw]
  clear hw wx FR
  have HF := hide hF
  by_cases e : p = 0
  · subst e
    clear hF
    go_wp2
    refine bodyPost_ret (v := .tuple #[.int .i64 0, .int .i64 130]) (by simp [results, go_sem]) rfl ?_
    exact ⟨0, HF.out, .inl ⟨rfl, rfl, rfl⟩⟩
  · obtain ⟨q0, q1, q2⟩ := hF.bd e n0 n1
    have z : (p == 0) = false := by simpa using e
    obtain ⟨w2, hw2⟩ : ∃ w2, w2 = setBlock w b (.map ((L ++ [(⟨p, who, ck⟩ : Po)]).map oent).toArray (ck + 1)) := ⟨_, rfl⟩
    have RUN : Hid ((Instr.mapUpdate 74 (.map (some b)) (.int .i64 p) (.int .i64 who)).run Try.prog w = .ok () w2) := by rw [hw2]; exact oupd_new H.out.map p who (otk_none q2)
    have P2 : PoAt w2 b (L ++ [⟨p, who, ck⟩]) (ck + 1) nx ∧ But (PoK b) w w2 := by rw [hw2]; exact H.out.more _ _
    have B2 := hide P2.2
    have P2 := P2.1
    have c2 := P2.c1
    have f2 := P2.fz 1
    obtain ⟨w3, hw3⟩ : ∃ w3, w3 = w2.setCell ⟨b + 1, 1, none⟩ (.int .i64 (nxt p)) := ⟨_, rfl⟩
    have b3 : But (Only (b + 1)) w2 w3 := by rw [hw3]; exact (But.refl (Only (b + 1)) w2).cellb (b := b + 1) rfl 1 _
    have P3 : Hid (PoAt w3 b (L ++ [⟨p, who, ck⟩]) (ck + 1) (nxt p)) := by
      refine ⟨?_, ?_, fun y => ?_, P2.map.but b3 (fun e => by have e : b = b + 1 := e; omega)⟩
      · rw [hw3, setCell_out (by decide)]; exact P2.c0
      · rw [hw3]; exact World.cell?_setCell_same _ _ _ P2.c1
      · rw [hw3, World.frozen?_setCell]; exact P2.fz y
    have B3 : Hid (But (PoK b) w w3) := B2.out.trans (b3.mono (fun g e => .inr e))
    have BH := hide (behind_any' p q1 (by omega) w2)
    obtain ⟨np, hnp⟩ : ∃ np, np = nxt p := ⟨_, rfl⟩
    rw [← hnp] at BH hw3 P3
    have HNP := hide hnp
    have hw3' := hw3.symm
    clear hF hw2 hw3 b3 P2 hnp q2
    go_upto_region 5 with (refine wpList_updP rfl _ _ _ _ rfl rfl _ _ _ rfl rfl rfl RUN.out ?_)
    go_wp2_with fail
    refine BH.out.mono ?_
    rintro _ wx ⟨rfl, hw⟩
    rw [hw]
    clear hw wx BH c0
    go_wp2
    refine bodyPost_ret (v := .tuple #[.int .i64 p, .int .i64 0]) (by simp [results, go_sem]) rfl ?_
    exact ⟨p, HF.out, .inr ⟨e, rfl, (by rw [← HNP.out]; exact P3.out), B3.out⟩⟩
/-- what Bind answers, and what it leaves -/
def Bnd (nx : Int) (L : List Po) (ck : Nat) (who port r err : Int) (L' : List Po) (ck' : Nat) (nx' : Int) : Prop :=
  (((port ≠ 0 ∧ prt port = false) ∨ who < 0) ∧ r = 0 ∧ err = 1 ∧ L' = L ∧ ck' = ck ∧ nx' = nx) ∨
  (port = 0 ∧ 0 ≤ who ∧ r = 0 ∧ FF nx L 0 ∧ err = 130 ∧ L' = L ∧ ck' = ck ∧ nx' = nx) ∨
  (port = 0 ∧ 0 ≤ who ∧ r ≠ 0 ∧ FF nx L r ∧ err = 0 ∧ L' = L ++ [⟨r, who, ck⟩] ∧ ck' = ck + 1 ∧ nx' = nxt r) ∨
  (port ≠ 0 ∧ prt port = true ∧ 0 ≤ who ∧ otk port L = true ∧ r = 0 ∧ err = 130 ∧ L' = L ∧ ck' = ck ∧ nx' = nx) ∨
  (port ≠ 0 ∧ prt port = true ∧ 0 ≤ who ∧ otk port L = false ∧ r = port ∧ err = 0 ∧ L' = L ++ [⟨port, who, ck⟩] ∧ ck' = ck + 1 ∧ nx' = nx)
set_option maxRecDepth 100000 in
set_option maxHeartbeats 4000000 in
theorem uBind_any {w : World} {b ck : Nat} {L : List Po} {nx : Int} (h : PoAt w b L ck nx) (n0 : 49152 ≤ nx) (n1 : nx ≤ 65535) (who port : Int) : Calls Try.prog 17 #[.pointer (some ⟨b + 1, 0, none⟩), .int .i64 who, .int .i64 port] w fun e w' => ∃ r err L' ck' nx', e = .returned (.tuple #[.int .i64 r, .int .i64 err]) ∧ Bnd nx L ck who port r err L' ck' nx' ∧ PoAt w' b L' ck' nx' ∧ But (PoK b) w w' := by
  have H := hide h
  have PT := hide (isPort_any port w)
  have BA := hide (uBindAny_any h n0 n1 who)
  have TK := hide (uTaken_any h port)
  have c0 := h.c0
  clear h
  by_cases p0 : port = 0
  · subst p0
    by_cases hw : who < 0
    · go_enter Try.func17, Try.ntmps17
      go_wp2
      refine bodyPost_ret (v := .tuple #[.int .i64 0, .int .i64 1]) (by simp [results, go_sem]) rfl ?_
      exact ⟨0, 1, L, ck, nx, rfl, .inl ⟨.inr hw, rfl, rfl, rfl, rfl, rfl⟩, H.out, But.refl _ _⟩
    · go_enter Try.func17, Try.ntmps17
      go_wp2_with fail
      refine BA.out.mono ?_
      rintro _ w2 ⟨p, hF, (⟨e1, rfl, hw2⟩ | ⟨e1, rfl, P2, b2⟩)⟩
      · subst e1
        rw [hw2]
        have HF := hide hF
        clear hF hw2 w2
        go_wp2
        refine bodyPost_ret (v := .tuple #[.int .i64 0, .int .i64 130]) (by simp [results, go_sem]) rfl ?_
        exact ⟨0, 130, L, ck, nx, rfl, .inr (.inl ⟨rfl, by omega, rfl, HF.out, rfl, rfl, rfl, rfl⟩), H.out, But.refl _ _⟩
      · have HF := hide hF
        have P2 := hide P2
        have B2 := hide b2
        have E1 := hide e1
        clear hF b2 e1
        go_wp2
        refine bodyPost_ret (v := .tuple #[.int .i64 p, .int .i64 0]) (by simp [results, go_sem]) rfl ?_
        exact ⟨p, 0, _, _, _, rfl, .inr (.inr (.inl ⟨rfl, by omega, E1.out, HF.out, rfl, rfl, rfl, rfl⟩)), P2.out, B2.out⟩
  · have z0 : (port == 0) = false := by simpa using p0
    go_enter Try.func17, Try.ntmps17
    go_wp2_with fail
    refine PT.out.mono ?_
    rintro _ wx ⟨rfl, hw⟩
    rw [hw]
    clear hw wx PT
    cases hp : prt port with
    | false =>
      have HP := hide hp
      clear hp
      go_wp2
      refine bodyPost_ret (v := .tuple #[.int .i64 0, .int .i64 1]) (by simp [results, go_sem]) rfl ?_
      exact ⟨0, 1, L, ck, nx, rfl, .inl ⟨.inl ⟨p0, HP.out⟩, rfl, rfl, rfl, rfl, rfl⟩, H.out, But.refl _ _⟩
    | true =>
      have HP := hide hp
      clear hp
      by_cases hw : who < 0
      · go_wp2
        refine bodyPost_ret (v := .tuple #[.int .i64 0, .int .i64 1]) (by simp [results, go_sem]) rfl ?_
        exact ⟨0, 1, L, ck, nx, rfl, .inl ⟨.inr hw, rfl, rfl, rfl, rfl, rfl⟩, H.out, But.refl _ _⟩
      · go_wp2_with fail
        refine TK.out.mono ?_
        rintro _ wx ⟨rfl, hw2⟩
        rw [hw2]
        clear hw2 wx TK
        cases ht : otk port L with
        | true =>
          have HT := hide ht
          clear ht
          go_wp2
          refine bodyPost_ret (v := .tuple #[.int .i64 0, .int .i64 130]) (by simp [results, go_sem]) rfl ?_
          exact ⟨0, 130, L, ck, nx, rfl, .inr (.inr (.inr (.inl ⟨p0, HP.out, by omega, HT.out, rfl, rfl, rfl, rfl, rfl⟩))), H.out, But.refl _ _⟩
        | false =>
          obtain ⟨w2, hw2⟩ : ∃ w2, w2 = setBlock w b (.map ((L ++ [(⟨port, who, ck⟩ : Po)]).map oent).toArray (ck + 1)) := ⟨_, rfl⟩
          have RUN : Hid ((Instr.mapUpdate 74 (.map (some b)) (.int .i64 port) (.int .i64 who)).run Try.prog w = .ok () w2) := by rw [hw2]; exact oupd_new H.out.map port who (otk_none ht)
          have P2 : Hid (PoAt w2 b (L ++ [⟨port, who, ck⟩]) (ck + 1) nx ∧ But (PoK b) w w2) := by rw [hw2]; exact H.out.more _ _
          have HT := hide ht
          clear ht hw2
          go_upto_region 9 with (refine wpList_updP rfl _ _ _ _ rfl rfl _ _ _ rfl rfl rfl RUN.out ?_)
          clear c0
          go_wp2
          refine bodyPost_ret (v := .tuple #[.int .i64 port, .int .i64 0]) (by simp [results, go_sem]) rfl ?_
          exact ⟨port, 0, _, _, _, rfl, .inr (.inr (.inr (.inr ⟨p0, HP.out, by omega, HT.out, rfl, rfl, rfl, rfl, rfl⟩))), P2.out.1, P2.out.2⟩
end Go.Proofs.Ythjeaebpboilpaa
