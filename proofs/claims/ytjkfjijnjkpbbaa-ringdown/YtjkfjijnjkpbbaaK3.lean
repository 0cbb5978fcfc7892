
/-
  Contracts of package pool: Set, Front, Append, Trim.
-/
import Derived.Test.YtjkfjijnjkpbbaaK2
import Derived.BigRegion
namespace Go.Proofs.Ytjkfjijnjkpbbaa
open Go.RowKit

theorem upd_upd {α : Type} (f : Nat → α) (k : Nat) (x y : α) : upd (upd f k x) k y = upd f k y := by
  funext i
  by_cases e : i = k
  · subst e; rw [upd_same, upd_same]
  · rw [upd_other _ _ _ _ e, upd_other _ _ _ _ e, upd_other _ _ _ _ e]

def stE (n : Nat) (B : Nat → Buf) (id : Int) (bs : List Int) : Int := if owE n B id = 0 then (if 288 < bs.length then 2 else 0) else owE n B id
def stB (n : Nat) (B : Nat → Buf) (id : Int) (bs : List Int) : Nat → Buf := if stE n B id bs = 0 then upd B id.toNat { B id.toNat with data := bs, head := [] } else B
def foE (n : Nat) (B : Nat → Buf) (id : Int) (bs : List Int) : Int := if owE n B id = 0 then (if 104 < bs.length then 2 else 0) else owE n B id
def foB (n : Nat) (B : Nat → Buf) (id : Int) (bs : List Int) : Nat → Buf := if foE n B id bs = 0 then upd B id.toNat { B id.toNat with head := bs } else B
def apE (n : Nat) (B : Nat → Buf) (id : Int) (bs : List Int) : Int := if owE n B id = 0 then (if 288 < bs.length + (B id.toNat).data.length then 2 else 0) else owE n B id
def apB (n : Nat) (B : Nat → Buf) (id : Int) (bs : List Int) : Nat → Buf := if apE n B id bs = 0 then upd B id.toNat { B id.toNat with data := (B id.toNat).data ++ bs } else B
def trE (n : Nat) (B : Nat → Buf) (id f k : Int) : Int := if owE n B id = 0 then (if 0 ≤ f ∧ 0 ≤ k ∧ f + k ≤ (B id.toNat).data.length then 0 else 1) else owE n B id
def cut (d : List Int) (f k : Int) : List Int := (d.take (d.length - k.toNat)).drop f.toNat
def trB (n : Nat) (B : Nat → Buf) (id f k : Int) : Nat → Buf := if trE n B id f k = 0 then upd B id.toNat { B id.toNat with data := cut (B id.toNat).data f k } else B

section
variable {w : World} {b g n : Nat} {B : Nat → Buf} {A : Nat → Prop}

set_option maxRecDepth 100000 in
theorem Set_any (H : PoolAt w b g n B) (id : Int) (v : Value) (bs : List Int) (hv : IsF A w v bs) :
    Calls Try.prog 20 #[.pointer (some ⟨b, 0, none⟩), .int .i64 id, v] w fun e w' => e = .returned (.int .i64 (stE n B id bs)) ∧ PoolAt w' b g n (stB n B id bs) ∧ But (Only g) w w' := by
  obtain ⟨va, vc, rfl, _, _⟩ := hv.shape
  have HH := hide H
  rcases held_cases H id with ⟨i, rfl, hi, hr, e0⟩ | ⟨hx, U0⟩
  · have U := hide (held_yes H i hi hr)
    unfold stB stE
    rw [e0, if_pos rfl, Int.toNat_natCast]
    by_cases hl : 288 < bs.length
    · rw [if_pos hl, if_neg (by omega)]
      have hl' : (288 : Int) < (bs.length : Int) := by omega
      clear H hr hi e0 hl hv
      go_enter Try.func20, Try.ntmps20
      go_wp2_with fail
      refine U.out.mono ?_
      rintro e w1 ⟨rfl, rfl⟩
      go_wp2
      go_ret
      exact ⟨rfl, HH.out, But.refl _ _⟩
    · rw [if_neg hl, if_pos rfl]
      have hl' : (bs.length : Int) ≤ 288 := by omega
      have hb := H.buf i hi
      have hc := hide (copy_run (some ⟨g, i * 395 + 106, none⟩) 288 288 _ bs hv g (i * 395 + 106) (fun _ => rfl) (by omega) (fun j hj => by rw [Nat.add_assoc]; exact hb.isThere _ (by omega)) H.fz)
      have e1 : (w.setCells g (i * 395 + 106) (bs.map (Value.int .u8))).cell? ⟨g, i * 395 + 394, none⟩ = some (.int .i64 ((B i).data.length : Int)) := (setCells_out (by rw [List.length_map]; omega)).trans hb.dl
      have e2 : (w.setCells g (i * 395 + 106) (bs.map (Value.int .u8))).cell? ⟨g, i * 395 + 105, none⟩ = some (.int .i64 ((B i).head.length : Int)) := (setCells_out (by rw [List.length_map]; omega)).trans hb.hl
      have e3 : ∀ k, (w.setCells g (i * 395 + 106) (bs.map (Value.int .u8))).frozen? ⟨g, k, none⟩ = false := fun k => (World.frozen?_setCells ..).trans (H.fz k)
      have f1 := e3 (i * 395 + 394)
      have f2 := e3 (i * 395 + 105)
      have P1 := H.lay i hi 0 bs bs (by omega) (by omega) (fun j hj => absurd hj (Nat.not_lt_zero _)) (fun j hj => by rw [Nat.zero_add])
      rw [Nat.add_zero] at P1
      have P2 := P1.noHead i hi
      rw [upd_upd, upd_same] at P2
      have bW := But.cells g (bs.map (Value.int .u8)) (i * 395 + 106) w
      have HP := hide P2
      have HW := hide bW
      clear H hr hi e0 hl hv hb e3 P1 P2 bW
      generalize w.setCells g (i * 395 + 106) (bs.map (Value.int .u8)) = w2 at *
      generalize ((B i).data.length : Int) = dl at *
      generalize ((B i).head.length : Int) = hhl at *
      generalize i * 395 = o at *
      go_enter Try.func20, Try.ntmps20
      go_wp2_with fail
      refine U.out.mono ?_
      rintro e w1 ⟨rfl, rfl⟩
      clear U
      go_wp2_with fail
      rw [hc.out]
      clear hc
      go_wp2
      go_ret
      exact ⟨rfl, HP.out, (HW.out.cellb _ _).cellb _ _⟩
  · have U := hide U0
    have e2 : stE n B id bs = owE n B id := by unfold stE; rw [if_neg hx]
    have e3 : stB n B id bs = B := by unfold stB; rw [e2, if_neg hx]
    rw [e2, e3]
    clear H hv e2 e3 U0
    generalize owE n B id = x at *
    have q : (x != 0) = true := by simp [hx]
    clear hx
    go_enter Try.func20, Try.ntmps20
    go_wp2_with fail
    refine U.out.mono ?_
    rintro e w1 ⟨rfl, rfl⟩
    go_wp2
    go_ret
    exact ⟨rfl, HH.out, But.refl _ _⟩

set_option maxRecDepth 100000 in
theorem Front_any (H : PoolAt w b g n B) (id : Int) (v : Value) (bs : List Int) (hv : IsF A w v bs) :
    Calls Try.prog 70 #[.pointer (some ⟨b, 0, none⟩), .int .i64 id, v] w fun e w' => e = .returned (.int .i64 (foE n B id bs)) ∧ PoolAt w' b g n (foB n B id bs) ∧ But (Only g) w w' := by
  obtain ⟨va, vc, rfl, _, _⟩ := hv.shape
  have HH := hide H
  rcases held_cases H id with ⟨i, rfl, hi, hr, e0⟩ | ⟨hx, U0⟩
  · have U := hide (held_yes H i hi hr)
    unfold foB foE
    rw [e0, if_pos rfl, Int.toNat_natCast]
    by_cases hl : 104 < bs.length
    · rw [if_pos hl, if_neg (by omega)]
      have hl' : (104 : Int) < (bs.length : Int) := by omega
      clear H hr hi e0 hl hv
      go_enter Try.func70, Try.ntmps70
      go_wp2_with fail
      refine U.out.mono ?_
      rintro e w1 ⟨rfl, rfl⟩
      go_wp2
      go_ret
      exact ⟨rfl, HH.out, But.refl _ _⟩
    · rw [if_neg hl, if_pos rfl]
      have hl' : (bs.length : Int) ≤ 104 := by omega
      have hb := H.buf i hi
      have hc := hide (copy_run (some ⟨g, i * 395 + 1, none⟩) 104 104 _ bs hv g (i * 395 + 1) (fun _ => rfl) (by omega) (fun j hj => by rw [Nat.add_assoc]; exact hb.isThere _ (by omega)) H.fz)
      have e2 : (w.setCells g (i * 395 + 1) (bs.map (Value.int .u8))).cell? ⟨g, i * 395 + 105, none⟩ = some (.int .i64 ((B i).head.length : Int)) := (setCells_out (by rw [List.length_map]; omega)).trans hb.hl
      have e3 : ∀ k, (w.setCells g (i * 395 + 1) (bs.map (Value.int .u8))).frozen? ⟨g, k, none⟩ = false := fun k => (World.frozen?_setCells ..).trans (H.fz k)
      have f2 := e3 (i * 395 + 105)
      have P2 := H.layHead i hi bs (by omega)
      have bW := But.cells g (bs.map (Value.int .u8)) (i * 395 + 1) w
      have HP := hide P2
      have HW := hide bW
      clear H hr hi e0 hl hv hb e3 P2 bW
      generalize w.setCells g (i * 395 + 1) (bs.map (Value.int .u8)) = w2 at *
      generalize ((B i).head.length : Int) = hhl at *
      generalize i * 395 = o at *
      go_enter Try.func70, Try.ntmps70
      go_wp2_with fail
      refine U.out.mono ?_
      rintro e w1 ⟨rfl, rfl⟩
      clear U
      go_wp2_with fail
      rw [hc.out]
      clear hc
      go_wp2
      go_ret
      exact ⟨rfl, HP.out, HW.out.cellb _ _⟩
  · have U := hide U0
    have e2 : foE n B id bs = owE n B id := by unfold foE; rw [if_neg hx]
    have e3 : foB n B id bs = B := by unfold foB; rw [e2, if_neg hx]
    rw [e2, e3]
    clear H hv e2 e3 U0
    generalize owE n B id = x at *
    have q : (x != 0) = true := by simp [hx]
    clear hx
    go_enter Try.func70, Try.ntmps70
    go_wp2_with fail
    refine U.out.mono ?_
    rintro e w1 ⟨rfl, rfl⟩
    go_wp2
    go_ret
    exact ⟨rfl, HH.out, But.refl _ _⟩
end

end Go.Proofs.Ytjkfjijnjkpbbaa
