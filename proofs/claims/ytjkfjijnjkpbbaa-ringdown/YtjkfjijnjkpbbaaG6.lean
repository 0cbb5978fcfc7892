
/-
  receive.
-/
import Derived.Test.YtjkfjijnjkpbbaaG5
import Derived.Deep.RegionHeld3
namespace Go.Proofs.Ytjkfjijnjkpbbaa
open Go.RowKit

/-- the buffers, when what came was laid into them; what came -/
def rcB (n : Nat) (D : Dev) (c : Sd) (B : Nat → Buf) : Nat → Nat → Buf
  | 0 => B
  | k + 1 => stB n (rcB n D c B k) (c.ids[k]?.getD 0) (D.rxF (((c.first + k) % 16 : Nat) : Int))
def rcC (D : Dev) (c : Sd) : Nat → List (Int × Bool)
  | 0 => []
  | k + 1 => rcC D c k ++ [(c.ids[k]?.getD 0, D.rxB (((c.first + k) % 16 : Nat) : Int))]
theorem rcC_len (D : Dev) (c : Sd) : ∀ k, (rcC D c k).length = k
  | 0 => rfl
  | k + 1 => by simp [rcC, rcC_len D c k]

theorem rdV_of (D : Dev) (k : Nat) (hk : k < 8) : D.rdV (k : Int) = D.r k := by unfold Dev.rdV; rw [if_pos (by omega)]; simp
theorem rdD_of (D : Dev) (k : Int) (hk : k ≠ 6) : D.rdD k = D := by unfold Dev.rdD; rw [if_neg hk]
theorem ring_nat {D : Dev} (ok : D.Ok) (k : Nat) (h1 : 2 ≤ k) (h2 : k ≤ 5) : ∃ e : Nat, D.r k = (e : Int) ∧ e < 16 ∧ (D.r k).toNat = e := by
  have := ok.ring k h1 h2
  exact ⟨(D.r k).toNat, by omega, by omega, rfl⟩

set_option maxRecDepth 100000 in
set_option maxHeartbeats 4000000 in
theorem receive_any {A : Nat → Prop} {w : World} {q : Bl} {n : Nat} {D : Dev} {B : Nat → Buf} {s c : Sd} (h : Prg A w q n D B s c) (ok : D.Ok) (hx : ∀ k, k < c.upto (D.r 2).toNat → D.rxE (((c.first + k) % 16 : Nat) : Int) = 0) :
    Calls Try.prog 63 #[.pointer (some ⟨q.r, 0, none⟩)] w fun x w' => ∃ v, x = .returned v ∧ Prg A w' q n D (rcB n D c B (c.upto (D.r 2).toNat)) s (c.cut (c.upto (D.r 2).toNat)) ∧ w'.ownsRow w.heap.size 67 2 v (rcC D c (c.upto (D.r 2).toNat)).length (flc (rcC D c (c.upto (D.r 2).toNat))) ∧ But (PK q) w w' := by
  obtain ⟨e, he, he16, het⟩ := ring_nat ok 2 (by omega) (by omega)
  rw [het] at hx ⊢
  have ld := h.dev.lt
  have lp := h.pool.blt
  have lg := h.pool.glt
  have lr := h.rlt
  have hmem := hide (And.intro h.dev.mem (And.intro h.ag h.ar))
  obtain ⟨w2, hw2⟩ : ∃ w2, w2 = (w.alloc (.cells #[.pointer (some ⟨q.r, 0, none⟩)] 40)).alloc (.cells #[.slice none 0 0] 61) := ⟨_, rfl⟩
  have s1 : (w.alloc (.cells #[.pointer (some ⟨q.r, 0, none⟩)] 40)).heap.size = w.heap.size + 1 := by simp
  have sz2 : w2.heap.size = w.heap.size + 2 := by rw [hw2]; simp
  have b2 : But (fun _ => False) w w2 := by rw [hw2]; exact ((But.refl _ _).alloc _).alloc _
  have cr2 : w2.cell? ⟨w.heap.size, 0, none⟩ = some (.pointer (some ⟨q.r, 0, none⟩)) := by
    rw [hw2]
    exact (((But.refl (fun _ => False) _).alloc _).cell (p := ⟨w.heap.size, 0, none⟩) (by simp) id).trans (cell_new w _ _)
  have cc2 : w2.cell? ⟨w.heap.size + 1, 0, none⟩ = some (.slice none 0 0) := by rw [hw2, ← s1]; exact cell_new _ _ _
  have cf2 : w2.frozen? ⟨w.heap.size + 1, 0, none⟩ = false := by rw [hw2, ← s1]; exact frozen_new _ _ _ _
  have P2 := hide (h.wide.but b2 (fun _ e => e.elim) id id id id)
  have HX := hide hx
  have OK := hide ok
  have u15 : c.upto e ≤ 15 := Nat.le_trans (c.upto_le e) h.c.m15
  have EV : D.rdV 2 = (e : Int) := (rdV_of D 2 (by omega)).trans he
  have ED : D.rdD 2 = D := rdD_of D 2 (by omega)
  have XRD := hide (read_any P2.out.drew 2)
  rw [EV, ED] at XRD
  have C2 := hide cc2
  have F2 := hide cf2
  have R2 := hide cr2
  have XL : Hid (∀ w3, Prg (fun g => A g ∨ w.heap.size ≤ g) w3 q n D B s c → But (Only q.d) w2 w3 → Calls Try.prog 61 #[.pointer (some ⟨q.r, 20, none⟩), .int .i64 (e : Int), .func (.func 87) #[] #[.pointer (some ⟨w.heap.size, 0, none⟩), .pointer (some ⟨w.heap.size + 1, 0, none⟩)]] w3 fun x w' => x = .returned (.tuple #[]) ∧
      Prg (fun g => A g ∨ w.heap.size ≤ g) w' q n D (rcB n D c B (c.upto e)) s (c.cut (c.upto e)) ∧ VarX 67 2 w.heap.size (fun k => k = w.heap.size ∨ k = w.heap.size + 1 ∨ k = w3.heap.size ∨ k = w3.heap.size + 1) w' (w.heap.size + 1) (rcC D c (c.upto e)).length (flc (rcC D c (c.upto e))) ∧ But (fun g => g = q.g ∨ g = q.r ∨ w.heap.size < g) w3 w') := fun w3 P3 b3 => by
    have sz3 := b3.size
    have nd : ∀ x, w.heap.size ≤ x → ¬ Only q.d x := fun x hx e => by have e : x = q.d := e; omega
    refine (leave_rec e he16 (.pointer (some ⟨w.heap.size, 0, none⟩)) (.pointer (some ⟨w.heap.size + 1, 0, none⟩)) (fun k W => Prg (fun g => A g ∨ w.heap.size ≤ g) W q n D (rcB n D c B k) s c ∧ VarX 67 2 w.heap.size (fun k => k = w.heap.size ∨ k = w.heap.size + 1 ∨ k = w3.heap.size ∨ k = w3.heap.size + 1) W (w.heap.size + 1) (rcC D c k).length (flc (rcC D c k)) ∧ W.cell? ⟨w.heap.size, 0, none⟩ = some (.pointer (some ⟨q.r, 0, none⟩)) ∧ But (fun g => g = q.g ∨ w.heap.size < g) w3 W) P3.c P3.fz ⟨P3, ?_, ?_, But.refl _ _⟩ ?_ ?_).mono ?_
    · exact ⟨by omega, by omega, .inr (.inl rfl), (b3.frozen (p := ⟨w.heap.size + 1, 0, none⟩) (by rw [sz2]; show w.heap.size + 1 < w.heap.size + 2; omega) (nd _ (by show w.heap.size ≤ w.heap.size + 1; omega))).trans F2.out, _, (b3.cell (p := ⟨w.heap.size + 1, 0, none⟩) (by rw [sz2]; show w.heap.size + 1 < w.heap.size + 2; omega) (nd _ (by show w.heap.size ≤ w.heap.size + 1; omega))).trans C2.out, World.ownsRow_nil _ _ _ _, fun k hk => by cases hk⟩
    · exact (b3.cell (p := ⟨w.heap.size, 0, none⟩) (by rw [sz2]; show w.heap.size < w.heap.size + 2; omega) (nd _ (Nat.le_refl _))).trans R2.out
    · rintro k W W' ⟨i1, i2, i3, i4⟩ hb
      have hl := i2.lt
      refine ⟨i1.but hb (fun g e => .inr (by omega)) (by omega) (by omega) (by omega) (by omega), i2.but hb (by omega) (fun g h1 h2 h3 => by omega), (hb.cell (p := ⟨w.heap.size, 0, none⟩) (by show w.heap.size < W.heap.size; omega) (by show ¬ (w.heap.size = w3.heap.size ∨ w.heap.size = w3.heap.size + 1); omega)).trans i3, i4.trans (hb.mono (fun g e => .inr (by omega)))⟩
    · rintro k W hk ⟨i1, i2, i3, i4⟩ hz
      refine (receive1_any i1 OK.out i3 i2 (fun k hk => by omega) ⟨ld, lp, lg, lr⟩ (fun g hg => .inr hg) (by rw [rcC_len]; omega) _ (HX.out k hk) _).mono ?_
      rintro _ W' ⟨rfl, p', v', b'⟩
      have hl := i2.lt
      refine ⟨rfl, ⟨p', v', (b'.cell (p := ⟨w.heap.size, 0, none⟩) (by show w.heap.size < W.heap.size; omega) (by show ¬ (w.heap.size = q.g ∨ w.heap.size = w.heap.size + 1 ∨ w.heap.size ≤ w.heap.size ∧ ¬ _); simp; omega)).trans i3, i4.trans (b'.mono (fun g e => ?_))⟩, b'.mono (fun g e => ?_)⟩
      · rcases e with e | e | ⟨e, e2⟩
        · exact .inl e
        · exact .inr (by omega)
        · exact .inr (by simp at e2; omega)
      · rcases e with e | e | ⟨e, e2⟩
        · subst e; exact ⟨P3.gr, by omega, by omega⟩
        · subst e; exact ⟨by omega, by omega, by omega⟩
        · simp at e2; exact ⟨by omega, by omega, by omega⟩
    · rintro _ w' ⟨rfl, w4, ⟨i1, i2, i3, i4⟩, _, hf, hs⟩
      refine ⟨rfl, i1.onC hf hs, i2.but hf.but (fun e => by have e : w.heap.size + 1 = q.r := e; omega) (fun g h1 _ _ e => by have e : g = q.r := e; omega), (i4.mono (fun g e => e.elim .inl (fun e => .inr (.inr e)))).trans (hf.but.mono (fun g e => .inr (.inl e)))⟩
  have B2 := hide b2
  clear h hx ok P2 cc2 cf2 EV ED
  have hmf : ∀ (fn : Fn) (first cap : Array Value) (w : World), (Instr.makeFunc fn first cap).run Try.prog w = .ok (.func fn first cap) w := fun _ _ _ _ => rfl
  have keepS : Hid (∀ W : World, But (fun g => g = q.d ∨ g = q.g ∨ g = q.r ∨ w.heap.size < g) w2 W → (W.cell? ⟨w.heap.size, 0, none⟩ = some (.pointer (some ⟨q.r, 0, none⟩)))) := fun W hb => (hb.cell (p := ⟨w.heap.size, 0, none⟩) (by rw [sz2]; show w.heap.size < w.heap.size + 2; omega) (by show ¬ (w.heap.size = q.d ∨ w.heap.size = q.g ∨ w.heap.size = q.r ∨ w.heap.size < w.heap.size); omega)).trans R2.out
  generalize rcC D c (c.upto e) = rc at *
  generalize rcB n D c B (c.upto e) = rb at *
  generalize c.cut (c.upto e) = c' at *
  go_enter Try.func63, Try.ntmps63
  go_upto_region 2 with fail
  rw [← hw2]
  clear hw2 s1
  have q2 : But (fun g => g = q.d ∨ g = q.g ∨ g = q.r ∨ w.heap.size < g) w2 w2.drew := (But.refl _ _).drew
  go_region_held (fun W => W.cell? ⟨w.heap.size, 0, none⟩ = some (.pointer (some ⟨q.r, 0, none⟩))) (exact keepS.out _ (by assumption))
    (first
      | (go_at_call 50; refine XRD.out.mono ?_; rintro _ w3 ⟨rfl, p3, b3⟩; have P3 := hide p3; have B3 : Hid (But (Only q.d) w2 w3) := ((But.refl _ _).drew).trans b3; have q3 : But (fun g => g = q.d ∨ g = q.g ∨ g = q.r ∨ w.heap.size < g) w2 w3 := B3.out.mono (fun g e => .inl e); clear p3 b3)
      | (go_at_call 61; refine (XL.out _ P3.out B3.out).mono ?_; rintro _ w4 ⟨rfl, p4, v4, b4⟩; have P4 := hide p4; have V4 := hide v4; have B4 := hide b4; have q4 : But (fun g => g = q.d ∨ g = q.g ∨ g = q.r ∨ w.heap.size < g) w2 w4 := q3.trans (b4.mono (fun g e => .inr e)); clear p4 v4 b4))
  all_goals
    obtain ⟨v, cv, ho, _⟩ := V4.out.row
    have HO := hide ho
    obtain ⟨a, cc, rfl, _⟩ := row_shape ho
    have BF : Hid (But (PK q) w w4) := (B2.out.mono (fun _ e => e.elim)).trans' q4 (fun g hg e => by rcases e with e | e | e | e; exact .inl e; exact .inr (.inl e); exact .inr (.inr e); omega)
    have PF := hide (P4.out.narrow hmem.out.1 hmem.out.2.1 hmem.out.2.2)
    clear ho q2 q3 q4 keepS
    go_wp2
    go_ret
    exact ⟨_, rfl, PF.out, HO.out, BF.out⟩
end Go.Proofs.Ytjkfjijnjkpbbaa
