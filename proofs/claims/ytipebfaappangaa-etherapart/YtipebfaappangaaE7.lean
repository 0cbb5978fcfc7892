
/-
  Package ether: the contract of Decode.
-/
import Derived.Test.YtipebfaappangaaE6
namespace Go.Proofs.Ytipebfaappangaa
open Go.RowKit

theorem results_cell_tmp2 {fn : Func} {p u q : Tmp} {ty : TypeId} (h : fn.results = #[.cell p ty, .tmp u, .tmp q]) (tmps : Array Value) (P : Program) (w : World) :
    (results fn tmps).run P w =
      ((asAddr (tmps.getD p undef)).run P w).andThen fun a w₁ => ((loadVar ty a).run P w₁).andThen fun v w₂ => .ok (.tuple #[v, tmps.getD u undef, tmps.getD q undef]) w₂ := by
  simp only [results, h]
  simp [Sem.run_bind, Result.andThen]

theorem step_call {ops : Array Oper} {o : Oper} {a : Act} {w : World} {K : Act → World → Prop} {Q : Exit → Act → World → Prop} {E : Prop} (hg : o.guard = none) (F : FuncId) (vals : Array Value) (hex : (execOp a.eval o).run Try.prog w = .ok (.enter F vals) w)
    {R : Ending → World → Prop} (hC : Calls Try.prog F vals w R) (hR : ∀ e w', R e w' → ∃ v, e = .returned v) (hK : ∀ v w', R (.returned v) w' → K (a.put o.dst v) w') :
    if Region.wanted o (yielded ops a.tmps) = true then Oper.wp Try.prog o a w K Q else E := by
  have hw : Region.wanted o (yielded ops a.tmps) = true := by simp [Region.wanted, hg]
  rw [if_pos hw]
  unfold Oper.wp
  rw [hex, Oper.upon_enter]
  refine hC.mono ?_
  intro e w' h
  obtain ⟨v, rfl⟩ := hR e w' h
  exact hK v w' h
theorem step_load_fr {ops : Array Oper} {o : Oper} {a : Act} {w : World} {K : Act → World → Prop} {Q : Exit → Act → World → Prop} {E : Prop} (hgd : o.guard = none) (x : Operand) (ho : o.op = .load 25 x)
    (s : Nat) (hx : a.eval x = .pointer (some ⟨s, 0, none⟩)) (f : Fr) (hg : FrAt w s f) (hK : K (a.put o.dst f.val) w) :
    if Region.wanted o (yielded ops a.tmps) = true then Oper.wp Try.prog o a w K Q else E := by
  have hw : Region.wanted o (yielded ops a.tmps) = true := by simp [Region.wanted, hgd]
  rw [if_pos hw]
  unfold Oper.wp execOp
  simp only [ho, hx, Instr.loadAt, Instr.sureAddr, loadVar, Sem.run_bind, Sem.run_pure, Result.andThen_ok, aggF, sizF, if_true, hg.loads]
  exact hK
theorem step_store_fr {ops : Array Oper} {o : Oper} {a : Act} {w : World} {K : Act → World → Prop} {Q : Exit → Act → World → Prop} {E : Prop} (hgd : o.guard = none) (x y : Operand) (ho : o.op = .store 25 x y)
    (s : Nat) (hx : a.eval x = .pointer (some ⟨s, 0, none⟩)) (f g : Fr) (hy : a.eval y = f.val) (hg : FrAt w s g) (hK : ∀ W', FrAt W' s f → But (Only s) w W' → K (a.put o.dst undef) W') :
    if Region.wanted o (yielded ops a.tmps) = true then Oper.wp Try.prog o a w K Q else E := by
  have hw : Region.wanted o (yielded ops a.tmps) = true := by simp [Region.wanted, hgd]
  rw [if_pos hw]
  unfold Oper.wp execOp
  have hl : f.cells.size = 16 := rfl
  simp only [ho, hx, hy, Fr.val, Instr.storeAt, Instr.sureAddr, storeVar, Sem.run_bind, Sem.run_pure, Result.andThen_ok, sizF, Value.cells, hl, ne_eq, not_true, if_false, hg.stores f]
  exact hK _ (hg.stored f) (But.cells s _ 0 w)

def zFr : Fr := ⟨⟨0, 0, 0, 0, 0, 0⟩, ⟨0, 0, 0, 0, 0, 0⟩, false, 0, 0, 0⟩

/-- what reading a frame answers -/
def deE (bs : List Int) : Int := if bs.length < 60 then 3 else if 256 + hsz (hdF bs).tag < bs.length then 2 else if (hdU bs || decide ((hdF bs).ty = 33024) || decide ((hdF bs).ty < 1536)) = true then 4 else 0
def deF (bs : List Int) : Fr := if deE bs = 0 then hdF bs else zFr
def deB (bs : List Int) : List Int := if deE bs = 0 then bs.drop (hsz (hdF bs).tag) else []

def DeEnd (w : World) (bs : List Int) (e : Ending) (w' : World) : Prop :=
  ∃ a c, e = .returned (.tuple #[(deF bs).val, .slice a (deB bs).length c, .int .i64 (deE bs)]) ∧ Gro w.heap.size w' (.slice a (deB bs).length c) (deB bs) ∧ Below w.heap.size w w'

theorem DeEnd.no {w w' : World} {bs : List Int} (k : Int) (hk : k ≠ 0) (h : deE bs = k) (hb : Below w.heap.size w w') : DeEnd w bs (.returned (.tuple #[zFr.val, .slice none 0 0, .int .i64 k])) w' := by
  have h0 : ¬ deE bs = 0 := by rw [h]; exact hk
  refine ⟨none, 0, ?_, ?_, hb⟩
  · rw [deF, deB, if_neg h0, if_neg h0, h]; rfl
  · rw [deB, if_neg h0]; exact Gro.nil _ _

theorem Gro.low {B B' : Nat} {W : World} {v : Value} {bs : List Int} (h : Gro B W v bs) (hB : B' ≤ B) : Gro B' W v bs := by
  obtain ⟨h1, h2 | ⟨g, cap, cur, rfl, hg, r⟩⟩ := h
  · exact ⟨h1, .inl h2⟩
  · exact ⟨h1, .inr ⟨g, cap, cur, rfl, by omega, r⟩⟩
theorem DeEnd.yes {w w' : World} {bs L : List Int} {f : Fr} {v : Value} {B : Nat} (h : deE bs = 0) (hF : deF bs = f) (hD : deB bs = L) (hB : w.heap.size ≤ B) (hG : Gro B w' v L) (hb : Below w.heap.size w w') : DeEnd w bs (.returned (.tuple #[f.val, v, .int .i64 0])) w' := by
  obtain ⟨a, c, rfl, hc⟩ := hG.shape
  refine ⟨a, c, ?_, ?_, hb⟩
  · rw [hF, hD, h]
  · rw [hD]; exact hG.low hB

set_option maxHeartbeats 4000000 in
theorem Decode_short {w : World} {v : Value} {A : Nat → Prop} {bs : List Int} (h : IsF A w v bs) (h60 : bs.length < 60) : Calls Try.prog 11 #[v] w (DeEnd w bs) := by
  obtain ⟨a, cap, rfl, hcap, -⟩ := h.shape
  have F0 := hide (FrAt.new w zFr 25)
  have B0 := hide (later_alloc w (.cells zFr.cells 25))
  simp only [zFr, Fr.cells] at F0 B0
  have E := hide (show deE bs = 3 from by unfold deE; rw [if_pos h60])
  have l1 : (bs.length : Int) < 60 := by omega
  clear h h60
  go_enter Try.func11, Try.ntmps11
  go_wp2_with (refine wpList_store_fr rfl _ _ rfl w.heap.size rfl zFr zFr rfl F0.out ?_)
  intro W1 F1 q1
  go_wp2
  refine bodyPost_ret (v := .tuple #[zFr.val, .slice none 0 0, .int .i64 3]) (by rw [results_cell_tmp2 rfl]; simp [asAddr, F1.load]) rfl ?_
  exact DeEnd.no 3 (by decide) E.out (B0.out.trans (q1.below B0.out.size (fun g hg e => by have e : g = w.heap.size := e; omega)))

set_option maxHeartbeats 4000000 in
theorem Decode_long {w : World} {v : Value} {A : Nat → Prop} {bs : List Int} (h : IsF A w v bs) (hB : Bytes bs) (hl : (bs.length : Int) ≤ 140737488355328) (h60 : 60 ≤ bs.length) : Calls Try.prog 11 #[v] w (DeEnd w bs) := by
  obtain ⟨b, off, cap, rfl, hcap⟩ : ∃ b off cap, v = .slice (some ⟨b, off, none⟩) bs.length cap ∧ bs.length ≤ cap := by
    obtain ⟨a, cap, e, hl, _, hc⟩ := h
    obtain ⟨b, off, e1, _⟩ := hc (by omega)
    exact ⟨b, off, cap, by rw [e, e1], hl⟩
  have F0 := hide (FrAt.new w zFr 25)
  have B0 := hide (later_alloc w (.cells zFr.cells 25))
  simp only [zFr, Fr.cells] at F0 B0
  have CH := hide (head_any (h.later B0.out) hB (by omega) h60)
  have E := hide (show deE bs = if 256 + hsz (hdF bs).tag < bs.length then 2 else if (hdU bs || decide ((hdF bs).ty = 33024) || decide ((hdF bs).ty < 1536)) = true then 4 else 0 from by unfold deE; rw [if_neg (by omega)])
  have EF := hide (show deE bs = 0 → deF bs = hdF bs ∧ deB bs = bs.drop (hsz (hdF bs).tag) from fun e => ⟨by rw [deF, if_pos e], by rw [deB, if_pos e]⟩)
  have H := hide h
  obtain ⟨n, hn⟩ : ∃ n, n = bs.length := ⟨_, rfl⟩
  rw [← hn] at H CH E hcap ⊢
  have n60 : (60 : Int) ≤ (n : Int) := by omega
  have n47 : (n : Int) ≤ 140737488355328 := by omega
  have HN := hide hn
  clear h hB hn h60 hl
  obtain ⟨U, hU⟩ : ∃ U, hdU bs = U := ⟨_, rfl⟩
  obtain ⟨f, hf⟩ : ∃ f, hdF bs = f := ⟨_, rfl⟩
  rw [hU, hf] at CH E
  rw [hf] at EF
  clear hU hf
  go_enter Try.func11, Try.ntmps11
  go_wp2_with fail
  refine CH.out.mono ?_
  rintro e w1 ⟨rfl, b1⟩
  clear CH
  have F1 := hide ((F0.out.later b1).al (.cells zFr.cells 25))
  have G1 := hide (FrAt.new w1 zFr 25)
  have B1 := hide (later (later B0.out b1) (later_alloc w1 (.cells zFr.cells 25)))
  have Z1 : Hid (w.heap.size < w1.heap.size) := by have := b1.size; rw [World.size_alloc] at this; show _ < _; omega
  simp only [zFr, Fr.cells] at F1 G1 B1
  clear F0 B0 b1
  go_upto_region 4 with (refine wpList_store_fr rfl _ _ rfl w1.heap.size rfl f zFr rfl G1.out ?_)
  intro W2 G2 q2
  have F2 := hide (F1.out.but q2 (fun e => by have e : w.heap.size = w1.heap.size := e; have := Z1.out; omega))
  have B2 := hide (B1.out.trans (q2.below B1.out.size (fun g hg e => by have e : g = w1.heap.size := e; have := Z1.out; omega)))
  replace G2 := hide G2
  clear F1 G1 B1 q2
  obtain ⟨s, hs⟩ : ∃ s, w1.heap.size = s := ⟨_, rfl⟩
  rw [hs] at G2 Z1 ⊢
  clear hs
  have c15 := G2.out.c15
  go_upto_region 5 with (refine wpList_load_fr rfl _ rfl s rfl f G2.out ?_)
  refine (headSize_any f W2).mono ?_
  rintro e w3 ⟨rfl, b3⟩
  have F3 := hide (F2.out.later b3)
  have G3 := hide (G2.out.later b3)
  have B3 := hide (later B2.out b3)
  replace c15 := G3.out.c15
  clear F2 G2 B2 b3
  have hh : 14 ≤ hsz f.tag ∧ hsz f.tag ≤ 18 := by unfold hsz; split <;> omega
  obtain ⟨q, hq⟩ : ∃ q, hsz f.tag = q := ⟨_, rfl⟩
  obtain ⟨y, hy⟩ : ∃ y, f.ty = y := ⟨_, rfl⟩
  rw [hq] at E EF hh ⊢
  rw [hy] at E c15
  clear hq hy
  obtain ⟨hq1, hq2⟩ := hh
  have cq : ¬ cap = q := by omega
  have nq : (q : Int) ≤ (n : Int) := by omega
  obtain ⟨m, hm⟩ : ∃ m, n - q = m := ⟨_, rfl⟩
  have HM := hide hm
  go_upto_region 5 with fail
  clear hm
  by_cases hl : 256 + q < n
  · have l1 : (256 : Int) < (m : Int) := by have := HM.out; omega
    go_wp2_with (refine wpList_store_fr rfl _ _ rfl w.heap.size rfl zFr zFr rfl F3.out ?_)
    intro W4 F4 q4
    go_wp2
    refine bodyPost_ret (v := .tuple #[zFr.val, .slice none 0 0, .int .i64 2]) (by rw [results_cell_tmp2 rfl]; simp [asAddr, F4.load]) rfl ?_
    exact DeEnd.no 2 (by decide) (by rw [E.out]; exact if_pos hl) (B3.out.trans (q4.below B3.out.size (fun g hg e => by have e : g = w.heap.size := e; omega)))
  · have l1 : (m : Int) ≤ 256 := by have := HM.out; omega
    replace E := hide (E.out.trans (if_neg hl))
    cases U
    · by_cases hy1 : y = 33024
      · go_wp2_with (refine wpList_store_fr rfl _ _ rfl w.heap.size rfl zFr zFr rfl F3.out ?_)
        intro W4 F4 q4
        go_wp2
        refine bodyPost_ret (v := .tuple #[zFr.val, .slice none 0 0, .int .i64 4]) (by rw [results_cell_tmp2 rfl]; simp [asAddr, F4.load]) rfl ?_
        exact DeEnd.no 4 (by decide) (by rw [E.out]; exact if_pos (by simp [hy1])) (B3.out.trans (q4.below B3.out.size (fun g hg e => by have e : g = w.heap.size := e; omega)))
      · by_cases hy2 : y < 1536
        · go_wp2_with (refine wpList_store_fr rfl _ _ rfl w.heap.size rfl zFr zFr rfl F3.out ?_)
          intro W4 F4 q4
          go_wp2
          refine bodyPost_ret (v := .tuple #[zFr.val, .slice none 0 0, .int .i64 4]) (by rw [results_cell_tmp2 rfl]; simp [asAddr, F4.load]) rfl ?_
          exact DeEnd.no 4 (by decide) (by rw [E.out]; exact if_pos (by simp [hy2])) (B3.out.trans (q4.below B3.out.size (fun g hg e => by have e : g = w.heap.size := e; omega)))
        · replace E := hide (E.out.trans (if_neg (by simp [hy1]; omega)))
          obtain ⟨e1, e2⟩ := EF.out E.out
          have D3 := (H.out.later B3.out).drop q (by have := HN.out; omega)
          rw [if_neg cq, Option.map_some, Addr.add_lit, HM.out] at D3
          have CC := hide (Clone_any (D3.later (later_drew _)) (by rw [List.length_drop]; have := HN.out; omega))
          have E1 := hide e1
          have E2 := hide e2
          have Z3 : Hid (w.heap.size < w3.heap.size) := Nat.lt_trans Z1.out G3.out.lt
          clear D3 e1 e2
          go_upto_region 11 with fail
          refine wp_region_any (by kernel_rfl) ?_
          change wpAny _ _ _ _ _ _ _ (World.drew _)
          refine wpAny_ready (rs := [0, 1]) (by kernel_rfl) (by simp) ?_
          refine AllReady.cons rfl (fun K hK => ?_) ?_
          · refine step_load_fr rfl _ rfl s rfl f (G3.out.later (later_drew _)) (hK _ _ ?_)
            clear hK K
            refine wpAny_ready (rs := [1]) (by kernel_rfl) (by simp) ?_
            refine AllReady.cons rfl (fun K hK => ?_) AllReady.nil
            go_simp
            refine hK _ _ ?_
            clear hK K
            refine wpAny_ready (rs := [2]) (by kernel_rfl) (by simp) ?_
            refine AllReady.cons rfl (fun K hK => ?_) AllReady.nil
            refine step_call rfl 20 #[.slice (some ⟨b, off + q, none⟩) m (cap - q)] (by simp [Act.eval, go_sem]) CC.out (fun e w' h => by obtain ⟨_, rfl, _⟩ := h; exact ⟨_, rfl⟩) ?_
            rintro vC wC ⟨v', hre, gC, bC⟩
            cases hre
            refine hK _ _ ?_
            clear hK K
            refine wpAny_ready (rs := [3]) (by kernel_rfl) (by simp) ?_
            refine AllReady.cons rfl (fun K hK => ?_) AllReady.nil
            refine step_store_fr rfl _ _ rfl w.heap.size rfl f _ rfl ((F3.out.later (later_drew _)).later bC) ?_
            intro W5 F5 q5
            refine hK _ _ ?_
            clear hK K
            refine wpAny_ready (rs := [4]) (by kernel_rfl) (by simp) ?_
            refine AllReady.cons rfl (fun K hK => ?_) AllReady.nil
            go_simp
            refine hK _ _ ?_
            clear hK K
            refine wpAny_ready (rs := [5]) (by kernel_rfl) (by simp) ?_
            refine AllReady.cons rfl (fun K hK => ?_) AllReady.nil
            go_simp
            refine hK _ _ ?_
            clear hK K
            refine wpAny_done (by kernel_rfl) ?_ _
            go_wp2
            refine bodyPost_ret (v := .tuple #[f.val, vC, .int .i64 0]) (by rw [results_cell_tmp2 rfl]; simp [asAddr, F5.load]) rfl ?_
            exact DeEnd.yes E.out E1.out E2.out B3.out.size (gC.but q5 (fun g e => by have e : g = w.heap.size := e; have := Z3.out; rw [e]; exact this)) ((later B3.out (undrew bC)).trans (q5.below (Nat.le_trans B3.out.size bC.size) (fun g hg e => by have e : g = w.heap.size := e; omega)))
          · refine AllReady.cons rfl (fun K hK => ?_) AllReady.nil
            go_simp
            refine hK _ _ ?_
            clear hK K
            refine wpAny_ready (rs := [0, 2]) (by kernel_rfl) (by simp) ?_
            refine AllReady.cons rfl (fun K hK => ?_) ?_
            · refine step_load_fr rfl _ rfl s rfl f (G3.out.later (later_drew _)) (hK _ _ ?_)
              clear hK K
              refine wpAny_ready (rs := [2]) (by kernel_rfl) (by simp) ?_
              refine AllReady.cons rfl (fun K hK => ?_) AllReady.nil
              refine step_call rfl 20 #[.slice (some ⟨b, off + q, none⟩) m (cap - q)] (by simp [Act.eval, go_sem]) CC.out (fun e w' h => by obtain ⟨_, rfl, _⟩ := h; exact ⟨_, rfl⟩) ?_
              rintro vC wC ⟨v', hre, gC, bC⟩
              cases hre
              refine hK _ _ ?_
              clear hK K
              refine wpAny_ready (rs := [3]) (by kernel_rfl) (by simp) ?_
              refine AllReady.cons rfl (fun K hK => ?_) AllReady.nil
              refine step_store_fr rfl _ _ rfl w.heap.size rfl f _ rfl ((F3.out.later (later_drew _)).later bC) ?_
              intro W5 F5 q5
              refine hK _ _ ?_
              clear hK K
              refine wpAny_ready (rs := [4]) (by kernel_rfl) (by simp) ?_
              refine AllReady.cons rfl (fun K hK => ?_) AllReady.nil
              go_simp
              refine hK _ _ ?_
              clear hK K
              refine wpAny_ready (rs := [5]) (by kernel_rfl) (by simp) ?_
              refine AllReady.cons rfl (fun K hK => ?_) AllReady.nil
              go_simp
              refine hK _ _ ?_
              clear hK K
              refine wpAny_done (by kernel_rfl) ?_ _
              go_wp2
              refine bodyPost_ret (v := .tuple #[f.val, vC, .int .i64 0]) (by rw [results_cell_tmp2 rfl]; simp [asAddr, F5.load]) rfl ?_
              exact DeEnd.yes E.out E1.out E2.out B3.out.size (gC.but q5 (fun g e => by have e : g = w.heap.size := e; have := Z3.out; rw [e]; exact this)) ((later B3.out (undrew bC)).trans (q5.below (Nat.le_trans B3.out.size bC.size) (fun g hg e => by have e : g = w.heap.size := e; omega)))
            · refine AllReady.cons rfl (fun K hK => ?_) AllReady.nil
              refine step_call rfl 20 #[.slice (some ⟨b, off + q, none⟩) m (cap - q)] (by simp [Act.eval, go_sem]) CC.out (fun e w' h => by obtain ⟨_, rfl, _⟩ := h; exact ⟨_, rfl⟩) ?_
              rintro vC wC ⟨v', hre, gC, bC⟩
              cases hre
              refine hK _ _ ?_
              clear hK K
              refine wpAny_ready (rs := [0]) (by kernel_rfl) (by simp) ?_
              refine AllReady.cons rfl (fun K hK => ?_) AllReady.nil
              refine step_load_fr rfl _ rfl s rfl f ((G3.out.later (later_drew _)).later bC) (hK _ _ ?_)
              clear hK K
              refine wpAny_ready (rs := [3]) (by kernel_rfl) (by simp) ?_
              refine AllReady.cons rfl (fun K hK => ?_) AllReady.nil
              refine step_store_fr rfl _ _ rfl w.heap.size rfl f _ rfl ((F3.out.later (later_drew _)).later bC) ?_
              intro W5 F5 q5
              refine hK _ _ ?_
              clear hK K
              refine wpAny_ready (rs := [4]) (by kernel_rfl) (by simp) ?_
              refine AllReady.cons rfl (fun K hK => ?_) AllReady.nil
              go_simp
              refine hK _ _ ?_
              clear hK K
              refine wpAny_ready (rs := [5]) (by kernel_rfl) (by simp) ?_
              refine AllReady.cons rfl (fun K hK => ?_) AllReady.nil
              go_simp
              refine hK _ _ ?_
              clear hK K
              refine wpAny_done (by kernel_rfl) ?_ _
              go_wp2
              refine bodyPost_ret (v := .tuple #[f.val, vC, .int .i64 0]) (by rw [results_cell_tmp2 rfl]; simp [asAddr, F5.load]) rfl ?_
              exact DeEnd.yes E.out E1.out E2.out B3.out.size (gC.but q5 (fun g e => by have e : g = w.heap.size := e; have := Z3.out; rw [e]; exact this)) ((later B3.out (undrew bC)).trans (q5.below (Nat.le_trans B3.out.size bC.size) (fun g hg e => by have e : g = w.heap.size := e; omega)))
    · go_wp2_with (refine wpList_store_fr rfl _ _ rfl w.heap.size rfl zFr zFr rfl F3.out ?_)
      intro W4 F4 q4
      go_wp2
      refine bodyPost_ret (v := .tuple #[zFr.val, .slice none 0 0, .int .i64 4]) (by rw [results_cell_tmp2 rfl]; simp [asAddr, F4.load]) rfl ?_
      exact DeEnd.no 4 (by decide) (by rw [E.out]; exact if_pos (by simp)) (B3.out.trans (q4.below B3.out.size (fun g hg e => by have e : g = w.heap.size := e; omega)))

theorem Decode_any {w : World} {v : Value} {A : Nat → Prop} {bs : List Int} (h : IsF A w v bs) (hB : Bytes bs) (hl : (bs.length : Int) ≤ 140737488355328) : Calls Try.prog 11 #[v] w (DeEnd w bs) := by
  by_cases h60 : bs.length < 60
  · exact Decode_short h h60
  · exact Decode_long h hB hl (by omega)

end Go.Proofs.Ytipebfaappangaa
