
/-
  The ring that is gone through (along): which places are told, in which order.
-/
import Derived.RangeFuncNested
import Derived.RangeFuncBound
import Derived.RangeFuncCalls
import Derived.RangeFuncLeaves
import Derived.Shelf.Abstract
import Derived.Shelf.RegionOpen
import Derived.OwnWalkIn
import Derived.TacticsInMore
import Derived.LoopNIn
import Derived.LoopIn
import Derived.Test.YtjkfjijnjkpbbaaNNic2
namespace Go.Proofs.Ytjkfjijnjkpbbaa
open Go.RowKit Go.Shelf
attribute [local go_sem] Oper.semAt_some

/-- a labelled body, inside a fence, where nothing jumps to the label -/
theorem wpIn_scope_straight {F : Fence} {n : Nat} {P : Program} {Q : Exit → Act → World → Prop} {a : Act} {w : World} {c : Code} (h : c.wpIn F n P (Exit.noGoto Q) a w) : (Code.scope c).wpIn F n P Q a w := by
  intro b k cs hro hb hr
  have h0 : (lone (b.atR a (.code (.scope c) :: k)) cs w).fenced P F := fenced_calm hb hr rfl
  have s0 : step P (lone (b.atR a (.code (.scope c) :: k)) cs w) = .next (lone (b.atR a (.code c :: .inScope c :: k)) cs w) := step_lone_go (by simp [stepG, stepG.exec, Frame.atR])
  obtain ⟨e, a₁, w₁, hq, harr⟩ := h b (.inScope c :: k) cs hro hb hr
  have s1 : step P (lone (b.atR a₁ (.inScope c :: k)) cs w₁) = .next (lone (b.atR a₁ k) cs w₁) := step_lone_go (by simp [stepG, stepG.exec, Frame.atR])
  cases e with
  | normal => exact ⟨.normal, a₁, w₁, hq, .head h0 s0 (StepsIn.trans harr (.one (fenced_calm hb hr rfl) s1))⟩
  | exit id =>
    have hx : exitTo id (.inScope c :: k) = exitTo id k := by simp [exitTo]
    exact ⟨.exit id, a₁, w₁, hq, fun k' hk => .head h0 s0 (harr.1 k' (by rw [hx]; exact hk)),
      fun hr' hk => let ⟨k₁, h1, h2⟩ := harr.2 hr' (by rw [hx]; exact hk); ⟨k₁, h1, .head h0 s0 h2⟩⟩
  | goto l => exact hq.elim
  | ret => exact ⟨_, a₁, w₁, hq, .of_steps (.one h0 s0) harr⟩
  | panic ch => exact ⟨_, a₁, w₁, hq, .of_steps (.one h0 s0) harr⟩
  | outgrown => exact ⟨_, a₁, w₁, hq, .of_steps (.one h0 s0) harr⟩

/-- how many places there are from h up to t -/
def span (h t : Nat) : Nat := (t + 16 - h) % 16
/-- the j-th of them -/
def spot (h j : Nat) : Fin 16 := ⟨(h + j) % 16, Nat.mod_lt _ (by omega)⟩
def ringN (h n : Nat) : List (Fin 16) := (List.range n).map (spot h)
theorem ringN_succ (h n : Nat) : ringN h (n + 1) = ringN h n ++ [spot h n] := by simp [ringN, List.range_succ]
theorem ringN_len (h n : Nat) : (ringN h n).length = n := by simp [ringN]
theorem mem_ringN (h t : Nat) (hh : h < 16) (i : Fin 16) : i ∈ ringN h (span h t) ↔ own h t i.val = true := by
  unfold ringN own span
  simp only [List.mem_map, List.mem_range, decide_eq_true_eq]
  constructor
  · rintro ⟨j, hj, rfl⟩
    simp only [spot]
    omega
  · intro hj
    refine ⟨(i.val + 16 - h) % 16, hj, ?_⟩
    apply Fin.ext
    simp only [spot]
    have := i.isLt
    omega

set_option maxRecDepth 100000 in
set_option maxHeartbeats 2000000 in
theorem along1_in (F : Fence) (n : Nat) (hf : F.fn 99) (hro : F.round = none) (hn : 1 ≤ n) (l Bf Bt h t : Nat) (hh : h < 16) (ht : t < 16)
    (J Jx : List (Fin 16) → World → Prop)
    (hY : ∀ pre (x : Fin 16) W, J pre W → pre.length < span h t → YieldAt F (n - 1) Try.prog l #[.int .i64 (x.val : Int)] W fun e W' =>
      (e = .returned (.bool true) ∧ J (pre ++ [x]) W' ∧ W'.heap[Bt]? = W.heap[Bt]?) ∨ (e = .returned (.bool false) ∧ Jx (pre ++ [x]) W'))
    (W : World) (hBf : W.cell? ⟨Bf, 0, none⟩ = some (.int .i64 h)) (hBt : W.cell? ⟨Bt, 0, none⟩ = some (.int .i64 t)) (h0 : J [] W) :
    CallsIn F n Try.prog 99 #[.func (.yield l) #[] #[], .pointer (some ⟨Bf, 0, none⟩), .pointer (some ⟨Bt, 0, none⟩)] W fun e W' => (∃ v, e = .returned v) ∧
      (J (ringN h (span h t)) W' ∨ ∃ k, k ≤ span h t ∧ Jx (ringN h k) W') := by
  refine callsIn_of_wp Try.func99 rfl hf ?_ hro
  simp only [Try.ntmps99, List.size_toArray, List.length_cons, List.length_nil, Nat.reduceAdd, Nat.reduceSub, Array.replicate_succ, Array.replicate_zero, List.push_toArray, List.append_toArray, List.nil_append, List.cons_append]
  have HY := hide hY
  clear hY
  gi_wp2
  refine wpIn_scope_straight ?_
  gi_wp2
  refine wpIn_label ?_
  gi_wp2
  gi_loopw [4] (fun va wr => ∃ (a j : Nat), va = .int .i64 a ∧ a < 16 ∧ j ≤ span h t ∧ a = (h + j) % 16 ∧ J (ringN h j) wr ∧ wr.heap[Bt]? = W.heap[Bt]?) (fun va _ => span (intOf va).toNat t)
  case atStart => exact ⟨h, 0, rfl, hh, Nat.zero_le _, by omega, by simpa [ringN] using h0, rfl⟩
  case round =>
    obtain ⟨a, j, rfl, ha, hj, hat, hJ, hB⟩ := hrel
    have hBt2 : wr.cell? ⟨Bt, 0, none⟩ = some (.int .i64 t) := (World.cell?_of_block (w := W) (a := ⟨Bt, 0, none⟩) hB).trans hBt
    have HAT := hide hat
    have HJ := hide hJ
    have HB := hide hB
    have HS := hide hj
    clear hat hJ hB hj
    by_cases e : a = t
    · have q : ((a : Int) != (t : Int)) = false := by simp [e]
      have E := hide e
      clear e
      gi_wp2
      simp only [Exit.noGoto]
      go_end0
      refine ⟨⟨_, rfl⟩, .inl ?_⟩
      have : j = span h t := by
        have := HAT.out; have := HS.out; have := E.out
        unfold span at *; omega
      rw [← this]; exact HJ.out
    · have q : ((a : Int) != (t : Int)) = true := by simp; omega
      have E := hide e
      clear e
      gi_wp2
      gi_loopw [4] (fun vb wr => ∃ (b k : Nat), vb = .int .i64 b ∧ a ≤ b ∧ b ≤ 16 ∧ k = j + (b - a) ∧ k ≤ span h t ∧ J (ringN h k) wr ∧ wr.heap[Bt]? = W.heap[Bt]?) (fun vb _ => 16 - (intOf vb).toNat)
      case atStart => exact ⟨a, j, rfl, Nat.le_refl _, by omega, by omega, HS.out, HJ.out, HB.out⟩
      case round =>
        obtain ⟨b, k, rfl, hab, hb16, hk, hks, hJ2, hB2⟩ := hrel
        have hBt3 : wr.cell? ⟨Bt, 0, none⟩ = some (.int .i64 t) := (World.cell?_of_block (w := W) (a := ⟨Bt, 0, none⟩) hB2).trans hBt
        have HK := hide hk
        have HKS := hide hks
        have HB2 := hide hB2
        clear hk hks hB2 hBt2
        by_cases hb : b < 16
        · by_cases e : b = t
          · have q2 : ((b : Int) == (t : Int)) = true := by simp [e]
            have E2 := hide e
            clear e
            gi_wp2
            go_roundw
            case rel => exact ⟨b, k, rfl, hb, HKS.out, by have := HAT.out; have := HK.out; omega, hJ2, HB2.out⟩
            case measure =>
              have := E.out; have := E2.out
              simp [intOf, span]; omega
          · have q2 : ((b : Int) == (t : Int)) = false := by simp; omega
            have E2 := hide e
            clear e
            have hlt : (ringN h k).length < span h t := by
              rw [ringN_len]
              have := HAT.out; have := HK.out; have := HKS.out; have := E2.out
              unfold span at *; omega
            have hsp : spot h k = ⟨b, hb⟩ := by
              apply Fin.ext; have := HAT.out; have := HK.out; simp only [spot]; omega
            obtain ⟨fn, tmps, assign, body, hy, hR⟩ := HY.out _ (⟨b, hb⟩ : Fin 16) wr hJ2 hlt
            have HSP := hide hsp
            have HLT : Hid (k + 1 ≤ span h t) := by rw [ringN_len] at hlt; exact hlt
            clear hsp hlt hJ2
            simp only at hy
            gi_wp2
            refine hR.mono ?_
            rintro e W3 (⟨rfl, hJ3, hk3⟩ | ⟨rfl, hJx3⟩)
            · gi_wp2
              go_roundw
              case rel => exact ⟨b + 1, k + 1, by go_num, by omega, by omega, by have := HK.out; omega, by
                have h1 := HAT.out; have h2 := HK.out; have h3 := HKS.out; have h4 := E2.out
                unfold span at *; omega, by rw [ringN_succ, HSP.out]; exact hJ3, hk3.trans HB2.out⟩
              case measure => simp [intOf]; omega
            · gi_wp2
              simp only [Exit.noGoto]
              show bodyPost Try.prog Try.f99 _ Exit.ret _ _
              refine bodyPost_ret (v := .tuple #[]) (results_none rfl _ _ _) rfl ?_
              exact ⟨⟨_, rfl⟩, .inr ⟨k + 1, HLT.out, by rw [ringN_succ, HSP.out]; exact hJx3⟩⟩
        · obtain rfl : b = 16 := by omega
          gi_wp2
          go_roundw
          case rel => exact ⟨0, k, rfl, by omega, HKS.out, by have := HAT.out; have := HK.out; omega, hJ2, HB2.out⟩
          case measure =>
            have h1 := HAT.out; have h2 := HK.out; have h3 := HKS.out; have h4 := E.out; have h5 := HS.out
            simp [intOf]
            unfold span at *; omega

end Go.Proofs.Ytjkfjijnjkpbbaa
