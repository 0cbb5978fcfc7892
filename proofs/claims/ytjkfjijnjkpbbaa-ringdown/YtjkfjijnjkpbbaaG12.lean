
/-
  Poll.
-/
import Derived.Test.YtjkfjijnjkpbbaaG11
namespace Go.Proofs.Ytjkfjijnjkpbbaa
open Go.RowKit

theorem and4 (e : Int) (h0 : 0 ≤ e) (h1 : e ≤ 7) : bits .and .i64 e 4 = if e / 4 % 2 = 1 then 4 else 0 := by
  have : e = 0 ∨ e = 1 ∨ e = 2 ∨ e = 3 ∨ e = 4 ∨ e = 5 ∨ e = 6 ∨ e = 7 := by omega
  rcases this with rfl | rfl | rfl | rfl | rfl | rfl | rfl | rfl <;> decide

theorem row_low {w : World} {B B' : Nat} {e : TypeId} {sz : Nat} {v : Value} {n : Nat} {xs : List Value} (h : w.ownsRow B e sz v n xs) (hb : B' ≤ B) : w.ownsRow B' e sz v n xs := by
  obtain ⟨h1, h2 | ⟨g, cap, cur, rfl, hg, rr⟩⟩ := h
  · exact ⟨h1, .inl h2⟩
  · exact ⟨h1, .inr ⟨g, cap, cur, rfl, Nat.le_trans hb hg, rr⟩⟩
theorem rd6_r (D : Dev) (k : Nat) (hk : k ≠ 6) : (D.rdD 6).r k = D.r k := by unfold Dev.rdD; rw [if_pos rfl]; exact upd_other _ _ _ _ hk

section
variable {A : Nat → Prop} {w : World} {q : Bl} {n : Nat} {x : Rg}

set_option maxRecDepth 100000 in
set_option maxHeartbeats 1000000 in
theorem Poll_down (h : Prg A w q n x.D x.B x.s x.c) (ok : x.D.Ok) {m : Nat} (hm : Bdd m x.B) (hm2 : m < 4611686018427387904) (hd : x.down) :
    Calls Try.prog 22 #[.pointer (some ⟨q.r, 0, none⟩)] w fun e w' => e = .returned (.slice none 0 0) ∧ Prg A w' q n (Rg.reset n ⟨x.D.rdD 6, x.B, x.s, x.c⟩).D (Rg.reset n ⟨x.D.rdD 6, x.B, x.s, x.c⟩).B (Rg.reset n ⟨x.D.rdD 6, x.B, x.s, x.c⟩).s (Rg.reset n ⟨x.D.rdD 6, x.B, x.s, x.c⟩).c ∧ But (PK q) w w' := by
  have X6 := hide (read_any h 6)
  rw [show x.D.rdV 6 = x.D.r 6 from rdV_of x.D 6 (by omega)] at X6
  have X1 : Hid (∀ W, Prg A W q n (x.D.rdD 6) x.B x.s x.c → Calls Try.prog 50 #[.pointer (some ⟨q.r, 0, none⟩), .int .i64 1] W fun e w' => e = .returned (.int .i64 0) ∧ Prg A w' q n (x.D.rdD 6) x.B x.s x.c ∧ But (Only q.d) W w') := fun W p => by
    have := read_any p 1
    rw [show (x.D.rdD 6).rdV 1 = 0 from (rdV_of _ 1 (by omega)).trans ((rd6_r x.D 1 (by omega)).trans hd.2), rdD_of _ 1 (by omega)] at this
    exact this
  have XR : Hid (∀ W, Prg A W q n (x.D.rdD 6) x.B x.s x.c → _) := fun W p => Reset_any (x := ⟨x.D.rdD 6, x.B, x.s, x.c⟩) p (ok.rd 6) hm hm2
  have hb := and4 (x.D.r 6) ok.ev.1 ok.ev.2
  rw [if_pos hd.1] at hb
  obtain ⟨R, hR⟩ : ∃ R, R = Rg.reset n ⟨x.D.rdD 6, x.B, x.s, x.c⟩ := ⟨_, rfl⟩
  rw [← hR] at XR ⊢
  generalize x.D.r 6 = e6 at *
  clear h ok hm hR
  go_enter Try.func22, Try.ntmps22
  go_wp2_with fail
  refine X6.out.mono ?_
  rintro _ w1 ⟨rfl, p1, b1⟩
  have X1' := hide (X1.out w1 p1)
  have B1 : Hid (But (PK q) w w1) := b1.mono (fun g e => .inl e)
  clear p1 b1 X6 X1
  go_wp2_with fail
  refine X1'.out.mono ?_
  rintro _ w2 ⟨rfl, p2, b2⟩
  have XR' := hide (XR.out w2 p2)
  have B2 : Hid (But (PK q) w w2) := B1.out.trans (b2.mono (fun g e => .inl e))
  clear p2 b2 X1' XR B1
  go_wp2_with fail
  refine XR'.out.mono ?_
  rintro _ w3 ⟨rfl, p3, b3⟩
  have F3 := hide (And.intro p3 (B2.out.trans b3))
  clear p3 b3 XR' B2
  go_wp2
  go_ret
  exact ⟨rfl, F3.out.1, F3.out.2⟩

set_option maxRecDepth 100000 in
set_option maxHeartbeats 2000000 in
theorem Poll_up (h : Prg A w q n x.D x.B x.s x.c) (ok : x.D.Ok) {m : Nat} (hm : Bdd m x.B) (hm2 : m < 4611686018427387904) (hd : ¬ x.down)
    (hx : ∀ k, k < x.got → (x.D.rdD 6).rxE (((x.c.first + k) % 16 : Nat) : Int) = 0) (h3 : x.D.r 3 = (x.c.nx : Int)) (hsp : span x.c.first (x.D.r 2).toNat ≤ x.c.ids.length) :
    Calls Try.prog 22 #[.pointer (some ⟨q.r, 0, none⟩)] w fun e w' => ∃ v, e = .returned v ∧ w'.ownsRow w.heap.size 67 2 v x.come.length (flc x.come) ∧ Prg A w' q n (x.polled n).D (x.polled n).B (x.polled n).s (x.polled n).c ∧ But (PK q) w w' := by
  have X6 := hide (read_any h 6)
  rw [show x.D.rdV 6 = x.D.r 6 from rdV_of x.D 6 (by omega)] at X6
  have ok1 := ok.rd 6
  have X1 : Hid (∀ W, Prg A W q n (x.D.rdD 6) x.B x.s x.c → Calls Try.prog 50 #[.pointer (some ⟨q.r, 0, none⟩), .int .i64 1] W fun e w' => e = .returned (.int .i64 (x.D.r 1)) ∧ Prg A w' q n (x.D.rdD 6) x.B x.s x.c ∧ But (Only q.d) W w') := fun W p => by
    have := read_any p 1
    rw [show (x.D.rdD 6).rdV 1 = x.D.r 1 from (rdV_of _ 1 (by omega)).trans (rd6_r x.D 1 (by omega)), rdD_of _ 1 (by omega)] at this
    exact this
  obtain ⟨e4, he4, h416, ht4⟩ := ring_nat ok 4 (by omega) (by omega)
  obtain ⟨e2, he2, h216, ht2⟩ := ring_nat ok 2 (by omega) (by omega)
  have X4 : Hid (∀ W, Prg A W q n (x.D.rdD 6) x.B x.s x.c → Calls Try.prog 50 #[.pointer (some ⟨q.r, 0, none⟩), .int .i64 4] W fun e w' => e = .returned (.int .i64 (e4 : Int)) ∧ Prg A w' q n (x.D.rdD 6) x.B x.s x.c ∧ But (Only q.d) W w') := fun W p => by
    have := read_any p 4
    rw [show (x.D.rdD 6).rdV 4 = (e4 : Int) from (rdV_of _ 4 (by omega)).trans ((rd6_r x.D 4 (by omega)).trans he4), rdD_of _ 4 (by omega)] at this
    exact this
  have SE : x.sent = x.s.upto e4 := by unfold Rg.sent; rw [ht4]
  have XL : Hid (∀ W, Prg A W q n (x.D.rdD 6) x.B x.s x.c → Calls Try.prog 61 #[.pointer (some ⟨q.r, 2, none⟩), .int .i64 (e4 : Int), .func (.func 62) #[.pointer (some ⟨q.r, 0, none⟩)] #[]] W fun e w' => e = .returned (.tuple #[]) ∧ Prg A w' q n (x.D.rdD 6) (frs n x.B (x.s.ids.take x.sent)) (x.s.cut x.sent) x.c ∧ But (PK q) W w') := fun W p => by
    rw [SE]
    exact leaveS_any p e4 h416 hm hm2
  have EG : x.c.upto ((x.D.rdD 6).r 2).toNat = x.got := by unfold Rg.got; rw [rd6_r x.D 2 (by omega)]
  have XV : Hid (∀ W, Prg A W q n (x.D.rdD 6) (frs n x.B (x.s.ids.take x.sent)) (x.s.cut x.sent) x.c → Calls Try.prog 63 #[.pointer (some ⟨q.r, 0, none⟩)] W fun e w' => ∃ v, e = .returned v ∧ Prg A w' q n (x.ready n).D (x.ready n).B (x.s.cut x.sent) (x.ready n).c ∧ w'.ownsRow W.heap.size 67 2 v x.come.length (flc x.come) ∧ But (PK q) W w') := fun W p => by
    have := receive_any p ok1 (by rw [EG]; exact hx)
    rw [EG] at this
    exact this
  have gl : x.got ≤ x.c.ids.length := x.c.upto_le _
  have gs : x.got = span x.c.first e2 := by unfold Rg.got Sd.upto; rw [ht2] at hsp ⊢; omega
  have XF : Hid (∀ W, Prg A W q n (x.ready n).D (x.ready n).B (x.s.cut x.sent) (x.ready n).c → Calls Try.prog 64 #[.pointer (some ⟨q.r, 0, none⟩)] W fun e w' => e = .returned (.tuple #[]) ∧ Prg A w' q n (x.polled n).D (x.polled n).B (x.polled n).s (x.polled n).c ∧ But (PK q) W w') := fun W p => by
    have f16 := h.c.f16
    refine fill_any (x := x.ready n) p ok1 ?_ ?_
    · show (x.D.rdD 6).r 2 = (((x.c.first + x.got) % 16 : Nat) : Int)
      rw [rd6_r x.D 2 (by omega), he2, gs]
      unfold span
      omega
    · show (x.D.rdD 6).r 3 = ((Sd.nx (x.c.cut x.got) : Nat) : Int)
      rw [rd6_r x.D 3 (by omega), h3]
      unfold Sd.nx Sd.cut
      simp only [List.length_drop]
      omega
  have hb := and4 (x.D.r 6) ok.ev.1 ok.ev.2
  have hlk := ok.link
  have hdn : Hid (x.D.r 6 / 4 % 2 = 1 → x.D.r 1 = 1) := fun h6 => hlk.resolve_left (fun h1 => hd ⟨h6, h1⟩)
  obtain ⟨P, hP⟩ : ∃ P, P = x.polled n := ⟨_, rfl⟩
  obtain ⟨C, hC⟩ : ∃ C, C = x.come := ⟨_, rfl⟩
  rw [← hP] at XF ⊢
  rw [← hC] at XV ⊢
  clear h ok hm hP hC hx h3 hsp hlk hd ok1 SE EG gl gs he4 he2 ht4 ht2
  generalize x.D.r 6 = e6 at *
  generalize x.D.r 1 = lk at *
  have hmf : ∀ (fn : Fn) (first cap : Array Value) (w : World), (Instr.makeFunc fn first cap).run Try.prog w = .ok (.func fn first cap) w := fun _ _ _ _ => rfl
  go_enter Try.func22, Try.ntmps22
  go_upto_region 1 with fail
  go_cut [2, 12] (fun v2 v12 wc => v2 = .slice none 0 0 ∧ v12 = .bool false ∧ Hid (Prg A wc q n (x.D.rdD 6) x.B x.s x.c ∧ But (PK q) w wc))
  case first =>
    by_cases h6 : e6 / 4 % 2 = 1
    · rw [if_pos h6] at hb
      have l1 := hdn.out h6
      subst l1
      go_wp2_with fail
      refine X6.out.mono ?_
      rintro _ w1 ⟨rfl, p1, b1⟩
      have X1' := hide (X1.out w1 p1)
      have B1 : Hid (But (PK q) w w1) := b1.mono (fun g e => .inl e)
      clear p1 b1 X6 X1
      go_wp2_with fail
      refine X1'.out.mono ?_
      rintro _ w2 ⟨rfl, p2, b2⟩
      have F2 := hide (And.intro p2 (B1.out.trans (b2.mono (fun g e => .inl e))))
      clear p2 b2 X1' B1
      go_wp2
      go_meet
      case rel => exact ⟨rfl, rfl, F2.out⟩
    · rw [if_neg h6] at hb
      go_wp2_with fail
      refine X6.out.mono ?_
      rintro _ w1 ⟨rfl, p1, b1⟩
      have F2 : Hid (Prg A w1 q n (x.D.rdD 6) x.B x.s x.c ∧ But (PK q) w w1) := ⟨p1, b1.mono (fun g e => .inl e)⟩
      clear p1 b1 X6 X1
      go_wp2
      go_meet
      case rel => exact ⟨rfl, rfl, F2.out⟩
  case rest =>
    obtain ⟨rfl, rfl, h1⟩ := hcut
    have B1 := hide h1.out.2
    have X4' := hide (X4.out wc.drew h1.out.1.drew)
    clear h1 X4 X6 X1 hb hdn
    go_upto_region 4 with fail
    go_cut [] (fun wd => Hid (Prg A wd q n (x.D.rdD 6) (frs n x.B (x.s.ids.take x.sent)) (x.s.cut x.sent) x.c ∧ But (PK q) w wd))
    case first =>
      go_region_with (first | (go_at_call 50; refine X4'.out.mono ?_; rintro _ w8 ⟨rfl, p8, b8⟩; have XL' := hide (XL.out w8 p8); have B8 : Hid (But (PK q) w w8) := B1.out.trans (((But.refl _ wc).drew).trans (b8.mono (fun g e => .inl e))); clear p8 b8) | (go_at_call 61; refine XL'.out.mono ?_; rintro _ w9 ⟨rfl, p9, b9⟩; have F9 := hide (And.intro p9 (B8.out.trans b9)); clear p9 b9))
      all_goals go_wp2
      all_goals go_meet
      all_goals exact F9.out
    case rest =>
      have XV' := hide (XV.out _ hcut.out.1)
      have B2 := hide hcut.out.2
      have LD := hide hcut.out.1.dev.lt
      have LG := hide hcut.out.1.pool.glt
      have LR := hide hcut.out.1.rlt
      clear hcut X4' XL XV B1
      go_wp2_with fail
      refine XV'.out.mono ?_
      rintro _ w3 ⟨v, rfl, p3, r3, b3⟩
      have XF' := hide (XF.out w3 p3)
      have B3 := hide (B2.out.trans b3)
      have R3 := hide r3
      have S2 := hide B2.out.size
      obtain ⟨a, cc, rfl, _⟩ := row_shape r3
      clear p3 b3 r3 XV' XF
      go_wp2_with fail
      refine XF'.out.mono ?_
      rintro _ w4 ⟨rfl, p4, b4⟩
      have R4 : Hid (w4.ownsRow w.heap.size 67 2 (.slice a C.length cc) C.length (flc C)) := by
        refine row_low (row_keep R3.out b4 (fun k hk e => ?_)) S2.out
        have hlt := (World.ownsRow.lt R3.out k hk).1
        have l1 := LD.out
        have l2 := LG.out
        have l3 := LR.out
        rcases e with e | e | e <;> omega
      have F4 := hide (And.intro p4 (B3.out.trans b4))
      clear p4 b4 XF'
      go_wp2
      go_ret
      exact ⟨_, rfl, R4.out, F4.out.1, F4.out.2⟩
end
end Go.Proofs.Ytjkfjijnjkpbbaa
