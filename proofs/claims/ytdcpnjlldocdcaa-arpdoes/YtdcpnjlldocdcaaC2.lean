
/-
  The document's cache: Pending.
-/
import Derived.Test.YtdcpnjlldocdcaaC1
import Derived.Test.YtdcpnjlldocdcaaA30
namespace Go.Proofs.Ytdcpnjlldocdcaa
open Go.RowKit Go.Shelf

/-- 'append' of nothing, wherever it lies -/
theorem run_app_none (W : World) (a : Option Addr) (n c : Nat) (hc : n ≤ c) (a2 : Option Addr) (c2 : Nat) : (Builtin.append_ #[54, 54] 54 #[.slice a n c, .slice a2 0 c2]).run Try.prog W = .ok (.slice a n c) W := by
  obtain ⟨i, hi, hz0, hz1, hz2⟩ := info_parts info_int
  have hs : (loadCells (a2.getD ⟨0, 0, none⟩) 0).run Try.prog W = .ok #[] W := rfl
  cases a2 with
  | none => cases a with
    | none => simp [Builtin.append_, run_underlying Try.underlying54, sizeOf, typeInfo, hi, hc, Builtin.lenOf, Builtin.firstCells]
    | some ad => simp [Builtin.append_, run_underlying Try.underlying54, sizeOf, typeInfo, hi, hc, Builtin.lenOf, Builtin.firstCells, storeCells]
  | some a2 =>
    simp only [Option.getD_some] at hs
    cases a with
    | none => simp [Builtin.append_, run_underlying Try.underlying54, sizeOf, typeInfo, hi, hc, Builtin.lenOf, Builtin.firstCells, hs]
    | some ad => simp [Builtin.append_, run_underlying Try.underlying54, sizeOf, typeInfo, hi, hc, Builtin.lenOf, Builtin.firstCells, storeCells, hs]
/-- one row of numbers behind another -/
theorem RowN.appR {O O2 : Nat → Prop} {W : World} {v x : Value} {L M : List Int} (h : RowN O W v L) (hM : RowN O2 W x M) (hl : L.length + M.length ≤ 8796093022208) :
    ∃ a' c' w2, (Builtin.append_ #[54, 54] 54 #[v, x]).run Try.prog W = .ok (.slice a' (L ++ M).length c') w2 ∧ RowN (fun g => O g ∨ W.heap.size ≤ g ∧ g < w2.heap.size) w2 (.slice a' (L ++ M).length c') (L ++ M) ∧ But O W w2 := by
  by_cases he : M = []
  · subst he
    obtain ⟨xa, xc, rfl⟩ := hM.shape
    obtain ⟨a9, c9, e9, l9, rest⟩ := h
    refine ⟨a9, c9, W, by rw [e9, List.append_nil]; exact run_app_none W a9 _ c9 l9 _ _, ?_, But.refl _ _⟩
    rw [List.append_nil]
    exact RowN.own (O := O) ⟨a9, c9, rfl, l9, rest⟩ (fun _ _ e => .inl e)
  · have hpp : 0 < M.length := by cases hq : M with
      | nil => exact absurd hq he
      | cons y ys => simp
    obtain ⟨xa, xc, rfl⟩ := hM.shape
    obtain ⟨pg, po, hva, _, _, hcs⟩ := hM.at hpp
    have src := src_ints (W := W) pg po xc M hcs
    rw [← hva] at src
    exact h.more _ M src hpp hl

section
variable {ops : Array Oper} {rest : List Oper} {o : Oper} {a : Act} {w : World} {Q : Exit → Act → World → Prop}
/-- 'append' of numbers, by its run -/
theorem wpList_appI (hgd : o.guard = none) (s x : Operand) (hop : o.op = Op.call { callee := Callee.builtin Builtin.append, args := #[s, x], argTypes := #[54, 54] }) (hty : o.type = 54) (v u : Value) (hs : a.eval s = v) (hx : a.eval x = u) {v' : Value} {w' : World}
    (hr : (Builtin.append_ #[54, 54] 54 #[v, u]).run Try.prog w = .ok v' w') (h : wpList Try.prog ops Q rest (a.put o.dst v') w') : wpList Try.prog ops Q (o :: rest) a w := by
  refine wpList_plain hgd fun K hK => ?_
  unfold Oper.wp
  simp only [execOp, hop, hty]
  simp [resolve, invoke, builtin, hs, hx, hr, Result.andThen]
  exact hK _ _ h
end
theorem pnd_succ {L : List Nb} {q : Nat} {x : Nb} (h : L[q]? = some x) : pnd (L.take (q + 1)) = pnd (L.take q) ++ x.pd := by
  unfold pnd
  rw [List.take_add_one, h]
  simp
theorem pnd_lenR {L : List Nb} (h : ∀ x ∈ L, x.pd.length ≤ 2) : (pnd L).length ≤ 2 * L.length := by
  induction L with
  | nil => simp [pnd]
  | cons x L ih =>
    have h1 := h x (by simp)
    have h2 := ih (fun y hy => h y (by simp [hy]))
    unfold pnd at h2 ⊢
    rw [List.flatMap_cons, List.length_append, List.length_cons]
    omega
set_option maxRecDepth 100000 in
set_option maxHeartbeats 4000000 in
theorem rPending_any {ρ : Nat → Role} {k : Nat} {w : World} {b : Nat} {m : M6} {i : I4} {L : List Nb} (h : Ca ρ k w b m i L) {now : Int} (hok : LOk now L) :
    Calls Try.prog 32 #[.pointer (some ⟨b, 0, none⟩)] w fun e w' => ∃ v, e = .returned v ∧ RowN (fun g => w.heap.size ≤ g) w' v (pnd L) ∧ Below w.heap.size w w' := by
  obtain ⟨lv, Lt, rfl, h⟩ := h
  obtain ⟨a0, c0, rfl, hlc, -⟩ := h.row
  obtain ⟨n, hn⟩ : ∃ n, n = Lt.length := ⟨_, rfl⟩
  have hlen : Lt.length ≤ 8 := by have := hok.len; simpa using this
  have zn : (n : Int) ≤ 8 := by omega
  have HN := hide hn
  rw [← hn] at h
  have H := hide h
  have HOK := hide hok
  clear hn h hok hlc hlen
  go_enter Try.func32, Try.ntmps32
  go_wp2
  go_loopw [3, 4] (fun v3 v4 wr => ∃ (q : Nat) (pa : Option Addr) (pc : Nat) (P : List Int), v4 = .int .i64 (q : Int) ∧ v3 = .slice pa P.length pc ∧ q ≤ n ∧ Hid (P = pnd ((Lt.map Prod.snd).take q)) ∧ Hid (RowN (fun g => w.heap.size ≤ g) wr (.slice pa P.length pc) P) ∧ Hid (Below w.heap.size w wr)) (fun _ v4 _ => n - (intOf v4).toNat)
  case atStart => exact ⟨0, none, 0, [], rfl, rfl, by omega, rfl, RowN.nil _ _, Below.refl _ _⟩
  case round =>
    obtain ⟨q, pa, pc, P, rfl, rfl, hq, HP, HR, HB⟩ := hrel
    have HW := hide (H.out.later HB.out)
    have xl : wr.cell? ⟨b, 10, none⟩ = some (.slice a0 n c0) := HW.out.lst
    obtain ⟨pl, hpl⟩ : ∃ pl, pl = P.length := ⟨_, rfl⟩
    rw [← hpl] at HR ⊢
    have HPL := hide hpl
    clear hpl
    by_cases hlt : q < n
    · have hN := HN.out
      obtain ⟨⟨tg, x⟩, hx⟩ : ∃ p, Lt[q]? = some p := ⟨_, List.getElem?_eq_getElem (by omega)⟩
      have hxm : (Lt.map Prod.snd)[q]? = some x := by rw [List.getElem?_map, hx]; rfl
      obtain ⟨a1, c1, e1, hlc, -, hna, hr⟩ := HW.out.row
      simp only [Value.slice.injEq] at e1
      obtain ⟨rfl, -, rfl⟩ := e1
      have ha : ∃ ad, a0 = some ad := by
        cases a0 with
        | none => have := hna rfl; omega
        | some ad => exact ⟨ad, rfl⟩
      obtain ⟨ad, rfl⟩ := ha
      obtain ⟨g, rfl, -, hgl, -, -, hcs⟩ := hr ad rfl
      obtain ⟨v, cx, rx, -⟩ := hcs q tg x hx
      obtain ⟨va, vc, rfl⟩ := rx.shape
      have x14 : wr.cell? ⟨g, q * 15 + 14, none⟩ = some (.slice va x.pd.length vc) := cx 14 _ rfl
      have lP : P.length ≤ 16 := by
        have h1 := pnd_lenR (L := (Lt.map Prod.snd).take q) (fun y hy => (HOK.out.all y (List.mem_of_mem_take hy)).pd2)
        have h2 : ((Lt.map Prod.snd).take q).length ≤ 8 := by have := HOK.out.len; rw [List.length_take]; omega
        rw [HP.out]
        omega
      have lx : x.pd.length ≤ 2 := (HOK.out.all x (List.mem_of_getElem? hxm)).pd2
      obtain ⟨a', c', w2, hrun, hR2, hb2⟩ := RowN.appR (by rw [HPL.out] at HR; exact HR.out) rx (by omega)
      obtain ⟨P2, hP2⟩ : ∃ P2, P2 = P ++ x.pd := ⟨_, rfl⟩
      rw [← hP2] at hrun hR2
      have EP : Hid (P2 = pnd ((Lt.map Prod.snd).take (q + 1))) := by unfold Hid; rw [hP2, HP.out, pnd_succ hxm]
      obtain ⟨xn, hxn⟩ : ∃ xn, xn = x.pd.length := ⟨_, rfl⟩
      obtain ⟨pl2, hpl2⟩ : ∃ pl2, pl2 = P2.length := ⟨_, rfl⟩
      rw [← HPL.out, ← hxn, ← hpl2] at hrun
      rw [← hpl2] at hR2
      rw [← hxn] at x14
      have HRUN := hide hrun
      have R2 : Hid (RowN (fun g => w.heap.size ≤ g) w2 (.slice a' pl2 c') P2) := hR2.own (fun g _ e => e.elim id (fun e => by have := HB.out.size; omega))
      have B2 : Hid (Below w.heap.size w w2) := HB.out.trans (hb2.below HB.out.size (fun g hg e => by have e : w.heap.size ≤ g := e; omega))
      have HPL2 := hide hpl2
      have zq : (q : Int) < (n : Int) := by omega
      clear hN hx hxm hlc hna hr hcs cx rx lP lx hrun hR2 hb2 hP2 hxn hpl2 hq HP HR HPL
      go_wp2_with (at_builtin; refine wpList_appI rfl _ _ rfl rfl _ _ rfl rfl HRUN.out ?_)
      go_roundw
      case rel => exact ⟨q + 1, a', c', P2, val_int (by omega), by rw [HPL2.out], by omega, EP.out, by rw [← HPL2.out]; exact R2.out, B2.out⟩
      case measure => simp [intOf]; omega
    · have eq : q = n := by omega
      subst eq
      have EP : P = pnd (Lt.map Prod.snd) := by rw [HP.out, List.take_of_length_le (by rw [List.length_map, ← HN.out]; exact Nat.le_refl _)]
      have FR : Hid (RowN (fun g => w.heap.size ≤ g) wr (.slice pa pl pc) (pnd (Lt.map Prod.snd))) := by unfold Hid; rw [← EP]; exact HR.out
      clear EP hlt hq
      go_wp2
      go_ret
      exact ⟨_, rfl, FR.out, HB.out⟩
end Go.Proofs.Ytdcpnjlldocdcaa
