
/-
  Package arp: slices.IndexFunc over neighbours.
-/
import Derived.Test.YtdcpnjlldocdcaaA10
namespace Go.Proofs.Ytdcpnjlldocdcaa
open Go.RowKit

/-- a place, or -1 -/
def idxI (ip : I4) (L : List Nb) : Int := match fndI ip L with | some k => (k : Int) | none => -1

set_option maxRecDepth 100000 in
set_option maxHeartbeats 2000000 in
theorem IndexFunc_any {w : World} (g c s : Nat) (a0 : Option Addr) (L : List Nb) (V : Nat → Value) (ip : I4) (hs : CellsAt w s 0 ip.vals) (hR : ∀ k x, L[k]? = some x → a0 = some ⟨g, 0, none⟩ ∧ CellsAt w g (k * 15) (x.cells (V k))) (hl : L.length ≤ 1000) :
    Calls Try.prog 50 #[.slice a0 L.length c, .func (.func 48) #[] #[.pointer (some ⟨s, 0, none⟩)]] w fun e w' => e = .returned (.int .i64 (idxI ip L)) ∧ Below w.heap.size w w' := by
  have HR := hide hR
  have HS := hide hs
  have zl : (L.length : Int) ≤ 1000 := by omega
  clear hR hs
  go_enter Try.func50, Try.ntmps50
  go_wp2
  go_loopw [8] (fun u wr => ∃ (k : Nat), u = .int .i64 (k : Int) ∧ k ≤ L.length ∧ Hid (Below w.heap.size w wr) ∧ Hid (Not ip L k)) (fun u _ => L.length - (intOf u).toNat)
  case atStart => exact ⟨0, rfl, Nat.zero_le _, Below.refl _ _, fun j q hj => by omega⟩
  case round =>
    obtain ⟨k, rfl, hk, hB, hN⟩ := hrel
    by_cases hlt : k < L.length
    · have zk : (k : Int) < (L.length : Int) := by omega
      obtain ⟨x, hx⟩ : ∃ x, L[k]? = some x := ⟨_, List.getElem?_eq_getElem hlt⟩
      obtain ⟨rfl, cx⟩ := HR.out k x hx
      have cx2 := cx.later (cx.lt (by rw [Nb.cells_len]; omega)) (hB.out.mono (Nat.le_refl _))
      have X := hide (room1_any x (V k) s ip (HS.out.later (HS.out.lt (by simp [I4.vals])) hB.out))
      have HX := hide hx
      have HC := hide cx2
      clear hx cx cx2
      go_wp2_with (refine wpList_loadA rfl 66 15 aggN sizN _ rfl g (k * 15) rfl (x.cells (V k)) rfl HC.out ?_)
      refine X.out.mono ?_
      rintro e w3 ⟨rfl, hb3⟩
      have B3 := hide (hB.out.trans (hb3.mono hB.out.size))
      clear hb3 X HC
      cases hp : eqI x.ip ip with
      | true =>
        have EI : Hid (idxI ip L = (k : Int)) := by unfold Hid idxI; rw [fndI_some hN.out HX.out hp]
        go_wp2
        go_ret
        exact ⟨ret_int EI.out.symm, B3.out⟩
      | false =>
        go_wp2
        go_roundw
        case rel => exact ⟨k + 1, by go_num, by omega, B3.out, fun j q hj hjq => by
          by_cases e : j = k
          · subst e; have := HX.out; rw [hjq] at this; rw [Option.some.inj this]; exact hp
          · exact hN.out j q (by omega) hjq⟩
        case measure => simp [intOf]; omega
    · have hkL : k = L.length := by omega
      have EI : Hid (idxI ip L = -1) := by unfold Hid idxI; rw [fndI_none (hkL ▸ hN.out)]
      clear hkL
      have zk : ¬ (k : Int) < (L.length : Int) := by omega
      go_wp2
      go_ret
      exact ⟨ret_int EI.out.symm, hB.out⟩
end Go.Proofs.Ytdcpnjlldocdcaa
