
/-
  Reset, Poll.
-/
import Derived.Test.YtjkfjijnjkpbbaaG10
namespace Go.Proofs.Ytjkfjijnjkpbbaa
open Go.RowKit

/-- a ring's state -/
structure Rg where
  D : Dev
  B : Nat → Buf
  s : Sd
  c : Sd

/-- Reset -/
def Rg.reset (n : Nat) (x : Rg) : Rg := ⟨(bgF n x.D (frs n (frs n x.B x.s.ids) x.c.ids)).D, (bgF n x.D (frs n (frs n x.B x.s.ids) x.c.ids)).B, sd0, (bgF n x.D (frs n (frs n x.B x.s.ids) x.c.ids)).c⟩
/-- has the link gone down? -/
def Rg.down (x : Rg) : Prop := x.D.r 6 / 4 % 2 = 1 ∧ x.D.r 1 = 0
/-- how many were sent, how many came -/
def Rg.sent (x : Rg) : Nat := x.s.upto (x.D.r 4).toNat
def Rg.got (x : Rg) : Nat := x.c.upto (x.D.r 2).toNat
def Rg.ready (n : Nat) (x : Rg) : Fl := ⟨x.D.rdD 6, rcB n (x.D.rdD 6) x.c (frs n x.B (x.s.ids.take x.sent)) x.got, x.c.cut x.got⟩
def Rg.polled (n : Nat) (x : Rg) : Rg := ⟨(flF n (x.ready n)).D, (flF n (x.ready n)).B, x.s.cut x.sent, (flF n (x.ready n)).c⟩
def Rg.come (x : Rg) : List (Int × Bool) := rcC (x.D.rdD 6) x.c x.got

section
variable {A : Nat → Prop} {w : World} {q : Bl} {n : Nat} {x : Rg}

set_option maxRecDepth 100000 in
set_option maxHeartbeats 1000000 in
theorem Reset_any (h : Prg A w q n x.D x.B x.s x.c) (ok : x.D.Ok) {m : Nat} (hm : Bdd m x.B) (hm2 : m < 4611686018427387904) :
    Calls Try.prog 37 #[.pointer (some ⟨q.r, 0, none⟩)] w fun e w' => e = .returned (.tuple #[]) ∧ Prg A w' q n (x.reset n).D (x.reset n).B (x.reset n).s (x.reset n).c ∧ But (PK q) w w' := by
  have H := hide h
  have f1 := h.s.f16
  have f2 := h.c.f16
  have m1 := h.s.m15
  have m2 := h.c.m15
  have n1 : x.s.nx < 16 := Nat.mod_lt _ (by omega)
  have n2 : x.c.nx < 16 := Nat.mod_lt _ (by omega)
  have NX1 := hide (next_any h.s.drew)
  have XL1 : Hid (∀ W, Below w.heap.size w W → Calls Try.prog 61 #[.pointer (some ⟨q.r, 2, none⟩), .int .i64 (x.s.nx : Int), .func (.func 62) #[.pointer (some ⟨q.r, 0, none⟩)] #[]] W fun e w' => e = .returned (.tuple #[]) ∧ Prg A w' q n x.D (frs n x.B x.s.ids) (x.s.cut x.s.ids.length) x.c ∧ But (PK q) w w') := fun W hb => by
    refine (leaveS_any (h.later hb) x.s.nx n1 hm hm2).mono ?_
    rintro e w' ⟨rfl, p, b⟩
    rw [x.s.upto_nx f1 m1, List.take_length] at p
    exact ⟨rfl, p, (But.of_below hb).trans b⟩
  have XL2 : Hid (∀ W s', Prg A W q n x.D (frs n x.B x.s.ids) s' x.c → Calls Try.prog 61 #[.pointer (some ⟨q.r, 20, none⟩), .int .i64 (x.c.nx : Int), .func (.func 62) #[.pointer (some ⟨q.r, 0, none⟩)] #[]] W fun e w' => e = .returned (.tuple #[]) ∧ Prg A w' q n x.D (frs n (frs n x.B x.s.ids) x.c.ids) s' (x.c.cut x.c.ids.length) ∧ But (PK q) W w') := fun W s' p0 => by
    refine (leaveC_any p0 x.c.nx n2 (hm.frs _) hm2).mono ?_
    rintro e w' ⟨rfl, p, b⟩
    rw [x.c.upto_nx f2 m2, List.take_length] at p
    exact ⟨rfl, p, b⟩
  have OK := hide ok
  obtain ⟨R, hR⟩ : ∃ R, R = x.reset n := ⟨_, rfl⟩
  have HR := hide hR
  rw [← hR]
  clear h ok hm hR
  have hmf : ∀ (fn : Fn) (first cap : Array Value) (w : World), (Instr.makeFunc fn first cap).run Try.prog w = .ok (.func fn first cap) w := fun _ _ _ _ => rfl
  generalize x.s.nx = nx1 at *
  obtain ⟨nx2, hnx2⟩ : ∃ y, y = x.c.nx := ⟨_, rfl⟩
  rw [← hnx2] at XL2
  have HNX2 := hide hnx2
  clear hnx2 n2
  go_enter Try.func37, Try.ntmps37
  go_upto_region 0 with fail
  go_cut [] (fun wc => Hid (∃ s', Prg A wc q n x.D (frs n x.B x.s.ids) s' x.c ∧ But (PK q) w wc))
  case first =>
    go_region_with (first | (go_at_call 52; refine NX1.out.mono ?_; rintro _ w8 ⟨rfl, k8, hk⟩; have q8 : Below w.heap.size w w8 := (by rw [hk]; exact undrewK (Below.refl _ _)); clear hk) | (go_at_call 61; refine (XL1.out w8 q8).mono ?_; rintro _ w9 ⟨rfl, p9, b9⟩; have F9 := hide (And.intro p9 b9); clear p9 b9))
    all_goals go_wp2
    all_goals go_meet
    all_goals exact ⟨_, F9.out⟩
  case rest =>
    obtain ⟨s', p1, b1⟩ := hcut.out
    have P1 := hide p1
    have B1 := hide b1
    have NX2 := hide (next_any p1.c.drew)
    rw [← HNX2.out] at NX2
    have XL2' : Hid (∀ W, Below wc.heap.size wc W → Calls Try.prog 61 #[.pointer (some ⟨q.r, 20, none⟩), .int .i64 (nx2 : Int), .func (.func 62) #[.pointer (some ⟨q.r, 0, none⟩)] #[]] W fun e w' => e = .returned (.tuple #[]) ∧ Prg A w' q n x.D (frs n (frs n x.B x.s.ids) x.c.ids) s' (x.c.cut x.c.ids.length) ∧ But (PK q) w w') := fun W hb => (XL2.out W s' (P1.out.later hb)).mono (by
      rintro e w' ⟨rfl, p, b⟩
      exact ⟨rfl, p, B1.out.trans ((But.of_below hb).trans b)⟩)
    clear hcut p1 b1 NX1 XL1 XL2 H
    go_upto_region 1 with fail
    go_cut [] (fun wd => Hid (∃ c', Prg A wd q n x.D (frs n (frs n x.B x.s.ids) x.c.ids) s' c' ∧ But (PK q) w wd))
    case first =>
      go_region_with (first | (go_at_call 52; refine NX2.out.mono ?_; rintro _ w8 ⟨rfl, k8, hk⟩; have q8 : Below wc.heap.size wc w8 := (by rw [hk]; exact undrewK (Below.refl _ _)); clear hk) | (go_at_call 61; refine (XL2'.out w8 q8).mono ?_; rintro _ w9 ⟨rfl, p9, b9⟩; have F9 := hide (And.intro p9 b9); clear p9 b9))
      all_goals go_wp2
      all_goals go_meet
      all_goals exact ⟨_, F9.out⟩
    case rest =>
      obtain ⟨c', p2, b2⟩ := hcut.out
      have XB := hide (begin_any p2 OK.out)
      have B2 := hide b2
      clear hcut p2 b2 P1 B1 NX2 XL2'
      go_wp2_with fail
      refine XB.out.mono ?_
      rintro _ w5 ⟨rfl, p5, b5⟩
      have F5 : Hid (Prg A w5 q n R.D R.B R.s R.c ∧ But (PK q) w w5) := ⟨by rw [HR.out]; exact p5, B2.out.trans b5⟩
      clear p5 b5 XB
      go_wp2
      go_end0
      exact ⟨rfl, F5.out.1, F5.out.2⟩
end
end Go.Proofs.Ytjkfjijnjkpbbaa
