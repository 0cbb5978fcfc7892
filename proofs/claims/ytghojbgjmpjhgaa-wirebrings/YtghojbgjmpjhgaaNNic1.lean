
/-
  Contracts of the device's functions: isPlace, runs, Tick, Read, Oldest, Link, goOn.
-/
import Derived.Test.YtghojbgjmpjhgaaNDev
namespace Go.Proofs.Ytghojbgjmpjhgaa
open Go.RowKit

def Only (b : Nat) : Nat → Prop := fun g => g = b
theorem But.cellb {b : Nat} {w W : World} (hb : But (Only b) w W) (k : Nat) (v : Value) : But (Only b) w (W.setCell ⟨b, k, none⟩ v) := hb.setCell (p := ⟨b, k, none⟩) (.inr rfl) v
theorem But.drewN {K : Nat → Prop} {a w : World} (h : But K a w) (n : Nat) : But K a (w.drewN n) := ⟨h.os, h.tape, h.output, h.size, h.block⟩
theorem DevAt.drewN {L : Lay} {A : Nat → Prop} {W : World} {b : Nat} {D : Dev} (h : DevAt L A W b D) (n : Nat) : DevAt L A (W.drewN n) b D := h.but (K := fun _ => False) ((But.refl _ _).drewN n) (fun _ e => e.elim) id

theorem isPlace_any (i : Int) (w : World) : Calls Try.prog 44 #[.int .i64 i] w fun e w' => e = .returned (.bool (place i)) ∧ w' = w := by
  by_cases h0 : 0 ≤ i
  · by_cases h1 : i < 16
    · rw [show place i = true from by simp [place]; omega]
      go_enter Try.func44, Try.ntmps44
      go_wp2
      go_ret
      exact ⟨rfl, rfl⟩
    · rw [show place i = false from by simp [place]; omega]
      go_enter Try.func44, Try.ntmps44
      go_wp2
      go_ret
      exact ⟨rfl, rfl⟩
  · rw [show place i = false from by simp [place]; omega]
    go_enter Try.func44, Try.ntmps44
    go_wp2
    go_ret
    exact ⟨rfl, rfl⟩

theorem runs_any {A : Nat → Prop} {b : Nat} {D : Dev} {w : World} (h : DevAt LN A w b D) : Calls Try.prog 72 #[.pointer (some ⟨b, 0, none⟩)] w fun e w' => e = .returned (.bool D.runs) ∧ w' = w := by
  have c0 := h.creg 0 (by omega)
  have c1 := h.creg 1 (by omega)
  obtain ⟨r, hr⟩ : ∃ r, r = D.runs := ⟨_, rfl⟩
  unfold Dev.runs at hr
  unfold Dev.runs
  rw [← hr]
  generalize D.r 0 = x at *
  generalize D.r 1 = y at *
  clear h
  by_cases h0 : x = 1
  · by_cases h1 : y = 1
    · have q0 : (x == 1) = true := by simp [h0]
      have q1 : (y == 1) = true := by simp [h1]
      have : r = true := by simp [hr, h0, h1]
      subst this
      clear hr h0 h1
      go_enter Try.func72, Try.ntmps72
      go_wp2
      go_ret
      exact ⟨rfl, rfl⟩
    · have q0 : (x == 1) = true := by simp [h0]
      have q1 : (y == 1) = false := by simp [h1]
      have : r = false := by simp [hr, h1]
      subst this
      clear hr h0 h1
      go_enter Try.func72, Try.ntmps72
      go_wp2
      go_ret
      exact ⟨rfl, rfl⟩
  · have q0 : (x == 1) = false := by simp [h0]
    have : r = false := by simp [hr, h0]
    subst this
    clear hr h0
    go_enter Try.func72, Try.ntmps72
    go_wp2
    go_ret
    exact ⟨rfl, rfl⟩

theorem Tick_any {A : Nat → Prop} {b : Nat} {D : Dev} {w : World} (h : DevAt LN A w b D) : Calls Try.prog 52 #[.pointer (some ⟨b, 0, none⟩)] w fun e w' => e = .returned (.tuple #[]) ∧ DevAt LN A w' b D.tick ∧ But (Only b) w w' := by
  have c := h.cclock LN_ok
  have hf := h.frozen 8
  have c : w.cell? ⟨b, 8, none⟩ = some (.int .i64 D.clock) := c
  have H := hide h
  clear h
  go_enter Try.func52, Try.ntmps52
  go_wp2
  go_end0
  exact ⟨rfl, H.out.setClock LN_ok _, (But.refl _ _).cellb _ _⟩

theorem toNat_of {x : Int} (h : 0 ≤ x ∧ x ≤ 15) : ∃ k : Nat, x = k ∧ k < 16 := ⟨x.toNat, by omega, by omega⟩

theorem Oldest_any {A : Nat → Prop} {b : Nat} {D : Dev} {w : World} (h : DevAt LN A w b D) (ok : D.Ok) :
    Calls Try.prog 20 #[.pointer (some ⟨b, 0, none⟩)] w fun e w' => e = .returned (.tuple #[.int .i64 D.olT, .bool D.olB]) ∧ w' = w := by
  have c4 := h.creg 4 (by omega)
  have c5 := h.creg 5 (by omega)
  obtain ⟨k, hk, hk16⟩ := toNat_of (ok.ring 4 (by omega) (by omega))
  have cp : w.cell? ⟨b, 9 + k * 2 + 1, none⟩ = some (.int .i64 (D.posted k)) := h.cposted LN_ok k hk16
  unfold Dev.olT Dev.olB
  rw [hk] at c4 ⊢
  generalize D.r 5 = t at *
  rw [Int.toNat_natCast]
  generalize D.posted k = p at *
  clear h ok hk
  by_cases e : (k : Int) = t
  · have q : ((k : Int) == t) = true := by simp [e]
    rw [if_pos e, show decide (¬ (k : Int) = t) = false from by simp [e]]
    clear e
    go_enter Try.func20, Try.ntmps20
    go_wp2
    go_ret2
    exact ⟨rfl, rfl⟩
  · have q : ((k : Int) == t) = false := by simp [e]
    rw [if_neg e, show decide (¬ (k : Int) = t) = true from by simp [e]]
    clear e
    go_enter Try.func20, Try.ntmps20
    go_wp2
    go_ret2
    exact ⟨rfl, rfl⟩

theorem Link_any {A : Nat → Prop} {b : Nat} {D : Dev} {w : World} (h : DevAt LN A w b D) (ok : D.Ok) (up : Bool) :
    Calls Try.prog 66 #[.pointer (some ⟨b, 0, none⟩), .bool up] w fun e w' => e = .returned (.tuple #[]) ∧ DevAt LN A w' b (D.lkD up) ∧ But (Only b) w w' := by
  have c1 := h.creg 1 (by omega)
  have c6 := h.creg 6 (by omega)
  have f1 := h.frozen 1
  have f6 := h.frozen 6
  have E1 : Hid (D.r 1 = bit up → D.lkD up = D) := by intro e; unfold Dev.lkD; rw [if_pos e]
  have E2 : Hid (¬ D.r 1 = bit up → D.lkD up = { D with r := upd (upd D.r 1 (bit up)) 6 (bits .or .i64 (D.r 6) 4) }) := by
    intro e; unfold Dev.lkD; rw [if_neg e, evor_bits _ _ ok.ev.1 ok.ev.2 (by omega)]
  have H := hide h
  clear h ok
  obtain ⟨x, hx⟩ : ∃ x, x = D.r 1 := ⟨_, rfl⟩
  obtain ⟨y, hy⟩ : ∃ y, y = D.r 6 := ⟨_, rfl⟩
  rw [← hx] at c1 E1 E2
  rw [← hy] at c6 E2
  clear hx hy
  generalize D.lkD up = D' at *
  by_cases e : x = bit up
  · have e' := E1.out e
    subst e'
    clear E1 E2
    cases up with
    | true =>
      subst e
      go_enter Try.func66, Try.ntmps66
      go_wp2
      go_end0
      exact ⟨rfl, H.out, But.refl _ _⟩
    | false =>
      subst e
      go_enter Try.func66, Try.ntmps66
      go_wp2
      go_end0
      exact ⟨rfl, H.out, But.refl _ _⟩
  · have e' := E2.out e
    subst e'
    clear E1 E2
    cases up with
    | true =>
      have q : ((1 : Int) != x) = true := by simp [bit] at e; simp; omega
      clear e
      go_enter Try.func66, Try.ntmps66
      go_wp2
      go_region
      go_wp2
      go_end0
      exact ⟨rfl, ((H.out.setReg LN_ok 1 (by omega) _).setReg LN_ok 6 (by omega) _).drew, (((But.refl _ _).cellb _ _).cellb _ _).drew⟩
    | false =>
      have q : ((0 : Int) != x) = true := by simp [bit] at e; simp; omega
      clear e
      go_enter Try.func66, Try.ntmps66
      go_wp2
      go_region
      go_wp2
      go_end0
      exact ⟨rfl, ((H.out.setReg LN_ok 1 (by omega) _).setReg LN_ok 6 (by omega) _).drew, (((But.refl _ _).cellb _ _).cellb _ _).drew⟩

end Go.Proofs.Ytghojbgjmpjhgaa
