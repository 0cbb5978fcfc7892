/-
  own: bytes that are wanted, written full.
-/
import Derived.Test.YtjcdhpfilkojaaaNRef3
import Derived.Test.YtjcdhpfilkojaaaNAwake
namespace Go.Proofs.Ytjcdhpfilkojaaa
open Go.RowKit

/-- where the bytes lie -/
theorem Gro.block {B : Nat} {W : World} {a : Option Addr} {n c : Nat} {bs : List Int} (h : Gro B W (.slice a n c) bs) (h0 : 0 < bs.length) :
    ∃ g, a = some ⟨g, 0, none⟩ ∧ B ≤ g ∧ (∀ j, j < bs.length → W.cell? ⟨g, j, none⟩ = some (.int .u8 (bs[j]?.getD 0))) ∧ ∀ j, W.frozen? ⟨g, j, none⟩ = false := by
  have h' := h
  obtain ⟨_, ⟨e, h1⟩ | ⟨g, cap, cur, e, hg, _⟩⟩ := h
  · omega
  · simp only [Value.slice.injEq] at e
    obtain ⟨rfl, rfl, rfl⟩ := e
    refine ⟨g, rfl, hg, fun j hj => ?_, fun j => World.ownsRow.frozenAt h' j⟩
    rw [World.ownsRow.cellAt h' j (by omega)]
    simp [hj]
theorem Gro.store {B : Nat} {W : World} {g n c : Nat} {bs : List Int} (h : Gro B W (.slice (some ⟨g, 0, none⟩) n c) bs) (hn : n = bs.length) (k : Nat) (x : Int) :
    Gro B (W.setCell ⟨g, k, none⟩ (.int .u8 x)) (.slice (some ⟨g, 0, none⟩) n c) (bs.set k x) := by
  subst hn
  have := (World.ownsRow.stored h k (.int .u8 x)).1
  unfold Gro
  rw [List.length_set, List.map_set]
  exact this

theorem append_run2 {B : Nat} {A : Nat → Prop} {W : World} {a : Option Addr} {n c : Nat} {tv : Value} {xs ys : List Int} (hx : Gro B W (.slice a n c) xs) (hy : IsF A W tv ys) (hB : B ≤ W.heap.size) (hl : xs.length + ys.length ≤ 140737488355328) :
    ∃ v' w', (Builtin.append_ #[29, 29] 29 #[.slice a n c, tv]).run Try.prog W = .ok v' w' ∧ Gro B w' v' (xs ++ ys) ∧ But (fun k => a = some ⟨k, 0, none⟩) W w' := by
  obtain ⟨i0, hi, hz0, hz1, hz2⟩ := info_parts info_u8
  obtain ⟨ya, cap, rfl, hlc, hn, hc⟩ := hy
  cases ya with
  | none =>
    have h0 := hn rfl
    subst h0
    have : ys = [] := List.eq_nil_of_length_eq_zero (by omega)
    subst this
    have hrun := run_append_owned_none (P := Try.prog) W B 29 29 5 i0 1 Try.underlying29 hi _ xs.length _ hx
    exact ⟨_, W, hrun, by simpa using hx, But.refl _ _⟩
  | some ad =>
    obtain ⟨v', w', hrun, ho, hg, hnil⟩ := run_append_own (P := Try.prog) W B 29 29 5 i0 (.int .u8 0) 1 1 Try.underlying29 hi hz0 hz1 hz2 rfl (by decide) _ xs.length _ hx ad ys.length cap (ys.map (Value.int .u8)) (by simp)
      (fun j u hu => by
        have hj : j < ys.length := by have := (List.getElem?_eq_some_iff.1 hu).1; simpa using this
        obtain ⟨b, off, e, _, _, hcs⟩ := hc (by omega)
        cases e
        rw [Addr.add_lit, hcs j hj]
        simp only [List.getElem?_map, List.getElem?_eq_getElem hj, Option.map_some, Option.some.injEq] at hu
        simp [List.getElem?_eq_getElem hj, hu]) (ints_one _) (by unfold maxLen; omega) (by omega) hB
    refine ⟨v', w', hrun, ?_, ⟨hg.os, hg.tape, hg.output, hg.size, fun k hk hne => hg.block k hk (fun e => hne ?_)⟩⟩
    · have e : (xs ++ ys).length = xs.length + ys.length := by simp
      unfold Gro
      rw [e, List.map_append]
      exact ho
    · obtain ⟨_, ⟨e1, _⟩ | ⟨g, cp, cur, e1, _⟩⟩ := hx
      · simp only [Value.slice.injEq] at e1
        obtain ⟨rfl, _, _⟩ := e1
        simp [Value.ownBlock] at e
      · simp only [Value.slice.injEq] at e1
        obtain ⟨rfl, _, _⟩ := e1
        simp [Value.ownBlock] at e
        rw [e]
theorem wpList_grow2 {w : World} {ops : Array Oper} {rest : List Oper} {o : Oper} {a : Act} {Q : Exit → Act → World → Prop} (hg : o.guard = none) (s x : Operand)
    (hop : o.op = Op.call { callee := Callee.builtin Builtin.append, args := #[s, x], argTypes := #[29, 29] }) (hty : o.type = 29)
    (B : Nat) (A : Nat → Prop) (va : Option Addr) (vn vc : Nat) (tv : Value) (xs ys : List Int) (hs : a.eval s = .slice va vn vc) (hx : a.eval x = tv) (gx : Gro B w (.slice va vn vc) xs) (iy : IsF A w tv ys) (hB : B ≤ w.heap.size) (hl : xs.length + ys.length ≤ 140737488355328) (L : List Int) (hL : xs ++ ys = L)
    (hK : ∀ (a' : Option Addr) (cap' : Nat) (w' : World), L.length ≤ cap' → Gro B w' (.slice a' L.length cap') L → But (fun k => va = some ⟨k, 0, none⟩) w w' → wpList Try.prog ops Q rest (a.put o.dst (.slice a' L.length cap')) w') :
    wpList Try.prog ops Q (o :: rest) a w := by
  subst hL
  refine wpList_plain hg fun K hK' => ?_
  obtain ⟨v', w', hrun, g', b'⟩ := append_run2 gx iy hB hl
  obtain ⟨a', cap', rfl, hle⟩ := g'.shape
  unfold Oper.wp
  simp only [execOp, hop, hty]
  simp [resolve, invoke, builtin, hs, hx, hrun, Result.andThen, -List.length_append]
  exact hK' _ _ (hK a' cap' w' hle g' b')

set_option maxRecDepth 100000 in
set_option maxHeartbeats 2000000 in
theorem own_any {A : Nat → Prop} {B : Nat} (a : Option Addr) (c : Nat) (y : Value) (bs : List Int) (w : World) (hG : Gro B w (.slice a bs.length c) bs) (hB : B ≤ w.heap.size) (hy : IsF A w y bs) (hl : bs.length ≤ 140737488351232) :
    Calls Try.prog 28 #[.slice a bs.length c, y] w fun e w' => e = .returned (.bool true) ∧ But (fun k => a = some ⟨k, 0, none⟩) w w' := by
  obtain ⟨ya, yc, rfl, _, _⟩ := hy.shape
  have cx := conv_str (hG.isF (A := fun _ => False) (fun _ _ => id))
  have cy := conv_str hy
  generalize strB bs = sb at cx cy
  obtain ⟨n, hn⟩ : ∃ n, n = bs.length := ⟨_, rfl⟩
  rw [← hn] at cx cy hG ⊢
  have hl' : n ≤ 140737488351232 := by omega
  have HG := hide hG
  have HN := hide hn
  clear hG hy hn hl
  go_enter Try.func28, Try.ntmps28
  go_wp2
  clear cx cy
  go_loopw [6] (fun vi wr => ∃ (i : Nat) (xs : List Int), vi = .int .i64 i ∧ i ≤ n ∧ Hid (xs.length = n) ∧ Hid (Gro B wr (.slice a n c) xs) ∧ But (fun k => a = some ⟨k, 0, none⟩) w wr) (fun vi _ => n - (intOf vi).toNat)
  case atStart => exact ⟨0, bs, rfl, Nat.zero_le _, HN.out.symm, HG.out, But.refl _ _⟩
  case round =>
    obtain ⟨i, xs, rfl, hi, hxl, hGX, hBe⟩ := hrel
    by_cases hil : i < n
    · obtain ⟨g, rfl, hg, hc, hf⟩ := hGX.out.block (by rw [hxl.out]; omega)
      have c1 := hc i (by rw [hxl.out]; exact hil)
      have f1 := hf i
      clear hc hf
      obtain ⟨z, ez⟩ : ∃ z, xs[i]?.getD 0 = z := ⟨_, rfl⟩
      rw [ez] at c1
      have HBe := hide hBe
      clear ez hBe
      go_wp2
      go_roundw
      case rel => exact ⟨i + 1, xs.set i ((z + 1) % 256), by go_num, by omega, by show _ = _; rw [List.length_set]; exact hxl.out, hGX.out.store hxl.out.symm i _, HBe.out.setCell (p := ⟨g, i, none⟩) (.inr rfl) _⟩
      case measure => simp [intOf]; omega
    · obtain rfl : i = n := by omega
      have hGX' := hGX.out
      have HBe := hide hBe
      have hszw := hBe.size
      clear hBe
      go_wp2_with (at_builtin; refine wpList_grow2 rfl _ _ rfl rfl B (fun _ => False) _ _ _ _ xs [7] rfl rfl ?g1 ?g2 ?g3 ?g4 (xs ++ [7]) ?g5 ?_)
      · exact hGX'.but (K := fun _ => False) ((But.refl _ _).alloc _) (fun _ e => e.elim)
      · exact lit_F _ [7] _ id (0, 0)
      · simp; omega
      · simp [hxl.out]; omega
      · rfl
      intro a' cap' w' hc' hG' hB'
      have hle : (xs ++ [7]).length = i + 1 := by simp [hxl.out]
      have HB2 := hide hB'
      clear hG' hB' hGX'
      generalize (xs ++ [7]).length = m at *
      subst hle
      go_wp2
      go_ret
      refine ⟨?_, (HBe.out.alloc _).trans HB2.out⟩
      show Ending.returned (.bool ((xs.length : Int) + 1 == (i : Int) + 1)) = _
      rw [hxl.out]; simp

end Go.Proofs.Ytjcdhpfilkojaaa
