
/-
  Contracts of the device's functions: isPlace, runs, Tick, Read, Oldest, Link, goOn.
-/
import Derived.Test.YtjkfjijnjkpbbaaNDev
namespace Go.Proofs.Ytjkfjijnjkpbbaa
open Go.RowKit

def Only (b : Nat) : Nat → Prop := fun g => g = b
theorem But.cellb {b : Nat} {w W : World} (hb : But (Only b) w W) (k : Nat) (v : Value) : But (Only b) w (W.setCell ⟨b, k, none⟩ v) := hb.setCell (p := ⟨b, k, none⟩) (.inr rfl) v
theorem But.drewN {K : Nat → Prop} {a w : World} (h : But K a w) (n : Nat) : But K a (w.drewN n) := ⟨h.os, h.tape, h.output, h.size, h.block⟩
theorem DevAt.drewN {L : Lay} {A : Nat → Prop} {W : World} {b : Nat} {D : Dev} (h : DevAt L A W b D) (n : Nat) : DevAt L A (W.drewN n) b D := h.but (K := fun _ => False) ((But.refl _ _).drewN n) (fun _ e => e.elim) id

theorem isPlace_any (i : Int) (w : World) : Calls Try.prog 80 #[.int .i64 i] w fun e w' => e = .returned (.bool (place i)) ∧ w' = w := by
  by_cases h0 : 0 ≤ i
  · by_cases h1 : i < 16
    · rw [show place i = true from by simp [place]; omega]
      go_enter Try.func80, Try.ntmps80
      go_wp2
      go_ret
      exact ⟨rfl, rfl⟩
    · rw [show place i = false from by simp [place]; omega]
      go_enter Try.func80, Try.ntmps80
      go_wp2
      go_ret
      exact ⟨rfl, rfl⟩
  · rw [show place i = false from by simp [place]; omega]
    go_enter Try.func80, Try.ntmps80
    go_wp2
    go_ret
    exact ⟨rfl, rfl⟩

theorem runs_any {A : Nat → Prop} {b : Nat} {D : Dev} {w : World} (h : DevAt LN A w b D) : Calls Try.prog 57 #[.pointer (some ⟨b, 0, none⟩)] w fun e w' => e = .returned (.bool D.runs) ∧ w' = w := by
  have c0 := h.creg 0 (by omega)
  have c1 := h.creg 1 (by omega)
  obtain ⟨r, hr⟩ : ∃ r, r = D.runs := ⟨_, rfl⟩
  unfold Dev.runs at hr
  unfold Dev.runs
  rw [← hr]
  generalize D.r 0 = x at *
  generalize D.r 1 = y at *
  clear h
  by_cases h0 : x = 1
  · by_cases h1 : y = 1
    · have q0 : (x == 1) = true := by simp [h0]
      have q1 : (y == 1) = true := by simp [h1]
      have : r = true := by simp [hr, h0, h1]
      subst this
      clear hr h0 h1
      go_enter Try.func57, Try.ntmps57
      go_wp2
      go_ret
      exact ⟨rfl, rfl⟩
    · have q0 : (x == 1) = true := by simp [h0]
      have q1 : (y == 1) = false := by simp [h1]
      have : r = false := by simp [hr, h1]
      subst this
      clear hr h0 h1
      go_enter Try.func57, Try.ntmps57
      go_wp2
      go_ret
      exact ⟨rfl, rfl⟩
  · have q0 : (x == 1) = false := by simp [h0]
    have : r = false := by simp [hr, h0]
    subst this
    clear hr h0
    go_enter Try.func57, Try.ntmps57
    go_wp2
    go_ret
    exact ⟨rfl, rfl⟩

theorem Tick_any {A : Nat → Prop} {b : Nat} {D : Dev} {w : World} (h : DevAt LN A w b D) : Calls Try.prog 42 #[.pointer (some ⟨b, 0, none⟩)] w fun e w' => e = .returned (.tuple #[]) ∧ DevAt LN A w' b D.tick ∧ But (Only b) w w' := by
  have c := h.cclock LN_ok
  have hf := h.frozen 8
  have c : w.cell? ⟨b, 8, none⟩ = some (.int .i64 D.clock) := c
  have H := hide h
  clear h
  go_enter Try.func42, Try.ntmps42
  go_wp2
  go_end0
  exact ⟨rfl, H.out.setClock LN_ok _, (But.refl _ _).cellb _ _⟩

theorem Read_any {A : Nat → Prop} {b : Nat} {D : Dev} {w : World} (h : DevAt LN A w b D) (reg : Int) :
    Calls Try.prog 47 #[.pointer (some ⟨b, 0, none⟩), .int .i64 reg] w fun e w' => e = .returned (.tuple #[.int .i64 (D.rdV reg), .int .i64 (rdE reg)]) ∧ DevAt LN A w' b (D.rdD reg) ∧ But (Only b) w w' := by
  by_cases h0 : 0 ≤ reg
  · by_cases h1 : reg < 8
    · obtain ⟨k, rfl⟩ : ∃ k : Nat, reg = k := ⟨reg.toNat, by omega⟩
      have c := h.creg k (by omega)
      have hf := h.frozen k
      have H := hide h
      have e1 : D.rdV k = D.r k := by unfold Dev.rdV; rw [if_pos (by omega)]; simp
      have e2 : rdE k = 0 := by unfold rdE; rw [if_pos (by omega)]
      rw [e1, e2]
      have E3 : Hid (k = 6 → D.rdD k = { D with r := upd D.r k 0 }) := by rintro rfl; unfold Dev.rdD; simp
      have E4 : Hid (¬ k = 6 → D.rdD k = D) := by intro h; unfold Dev.rdD; rw [if_neg (by omega)]
      clear h e1 e2
      generalize D.rdD k = D' at *
      obtain ⟨x, hx⟩ : ∃ x, x = D.r k := ⟨_, rfl⟩
      rw [← hx] at c ⊢
      clear hx
      by_cases h6 : k = 6
      · have q : ((k : Int) == 6) = true := by simp [h6]
        have e := E3.out h6
        subst e
        clear E3 E4 h6
        go_enter Try.func47, Try.ntmps47
        go_wp2
        go_ret2
        exact ⟨rfl, H.out.setReg LN_ok k (by omega) 0, (But.refl _ _).cellb _ _⟩
      · have q : ((k : Int) == 6) = false := by simp; omega
        have e := E4.out h6
        subst e
        clear E3 E4 h6
        go_enter Try.func47, Try.ntmps47
        go_wp2
        go_ret2
        exact ⟨rfl, H.out, But.refl _ _⟩
    · have e1 : D.rdV reg = 0 := by unfold Dev.rdV; rw [if_neg (by omega)]
      have e2 : rdE reg = 1 := by unfold rdE; rw [if_neg (by omega)]
      have e3 : D.rdD reg = D := by unfold Dev.rdD; rw [if_neg (by omega)]
      rw [e1, e2, e3]
      have H := hide h
      clear h e1 e2 e3
      go_enter Try.func47, Try.ntmps47
      go_wp2
      go_ret2
      exact ⟨rfl, H.out, But.refl _ _⟩
  · have e1 : D.rdV reg = 0 := by unfold Dev.rdV; rw [if_neg (by omega)]
    have e2 : rdE reg = 1 := by unfold rdE; rw [if_neg (by omega)]
    have e3 : D.rdD reg = D := by unfold Dev.rdD; rw [if_neg (by omega)]
    rw [e1, e2, e3]
    have H := hide h
    clear h e1 e2 e3
    go_enter Try.func47, Try.ntmps47
    go_wp2
    go_ret2
    exact ⟨rfl, H.out, But.refl _ _⟩

theorem toNat_of {x : Int} (h : 0 ≤ x ∧ x ≤ 15) : ∃ k : Nat, x = k ∧ k < 16 := ⟨x.toNat, by omega, by omega⟩

theorem Link_any {A : Nat → Prop} {b : Nat} {D : Dev} {w : World} (h : DevAt LN A w b D) (ok : D.Ok) (up : Bool) :
    Calls Try.prog 21 #[.pointer (some ⟨b, 0, none⟩), .bool up] w fun e w' => e = .returned (.tuple #[]) ∧ DevAt LN A w' b (D.lkD up) ∧ But (Only b) w w' := by
  have c1 := h.creg 1 (by omega)
  have c6 := h.creg 6 (by omega)
  have f1 := h.frozen 1
  have f6 := h.frozen 6
  have E1 : Hid (D.r 1 = bit up → D.lkD up = D) := by intro e; unfold Dev.lkD; rw [if_pos e]
  have E2 : Hid (¬ D.r 1 = bit up → D.lkD up = { D with r := upd (upd D.r 1 (bit up)) 6 (bits .or .i64 (D.r 6) 4) }) := by
    intro e; unfold Dev.lkD; rw [if_neg e, evor_bits _ _ ok.ev.1 ok.ev.2 (by omega)]
  have H := hide h
  clear h ok
  obtain ⟨x, hx⟩ : ∃ x, x = D.r 1 := ⟨_, rfl⟩
  obtain ⟨y, hy⟩ : ∃ y, y = D.r 6 := ⟨_, rfl⟩
  rw [← hx] at c1 E1 E2
  rw [← hy] at c6 E2
  clear hx hy
  generalize D.lkD up = D' at *
  by_cases e : x = bit up
  · have e' := E1.out e
    subst e'
    clear E1 E2
    cases up with
    | true =>
      subst e
      go_enter Try.func21, Try.ntmps21
      go_wp2
      go_end0
      exact ⟨rfl, H.out, But.refl _ _⟩
    | false =>
      subst e
      go_enter Try.func21, Try.ntmps21
      go_wp2
      go_end0
      exact ⟨rfl, H.out, But.refl _ _⟩
  · have e' := E2.out e
    subst e'
    clear E1 E2
    cases up with
    | true =>
      have q : ((1 : Int) != x) = true := by simp [bit] at e; simp; omega
      clear e
      go_enter Try.func21, Try.ntmps21
      go_wp2
      go_region
      go_wp2
      go_end0
      exact ⟨rfl, ((H.out.setReg LN_ok 1 (by omega) _).setReg LN_ok 6 (by omega) _).drew, (((But.refl _ _).cellb _ _).cellb _ _).drew⟩
    | false =>
      have q : ((0 : Int) != x) = true := by simp [bit] at e; simp; omega
      clear e
      go_enter Try.func21, Try.ntmps21
      go_wp2
      go_region
      go_wp2
      go_end0
      exact ⟨rfl, ((H.out.setReg LN_ok 1 (by omega) _).setReg LN_ok 6 (by omega) _).drew, (((But.refl _ _).cellb _ _).cellb _ _).drew⟩

end Go.Proofs.Ytjkfjijnjkpbbaa
