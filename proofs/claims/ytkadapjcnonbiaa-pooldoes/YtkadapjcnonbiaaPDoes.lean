
/-
  does: a call of both, kind by kind.
-/
import Derived.Test.YtkadapjcnonbiaaPSame
namespace Go.Proofs.Ytkadapjcnonbiaa
open Go.RowKit

/-- the two blocks that a call of both turns -/
def Two (g r : Nat) : Nat → Prop := fun x => x = g ∨ x = r
theorem one_two {g r : Nat} {w w' : World} (h : But (Only g) w w') : But (Two g r) w w' := h.mono (fun _ e => .inl e)
theorem one_two' {g r : Nat} {w w' : World} (h : But (Only r) w w') : But (Two g r) w w' := h.mono (fun _ e => .inr e)

/-- the blocks that hold no byte of the document's buffers, while a call is made -/
def Av (A : Nat → Prop) (s m : Nat) : Nat → Prop := fun x => A x ∨ (s ≤ x ∧ x < m)

/-- what a call of both leaves -/
def Both (A : Nat → Prop) (b g rb rg n m : Nat) (w : World) (e : Ending) (w' : World) : Prop :=
  e = .returned (.bool true) ∧ ∃ B', PoolAt w' b g n B' ∧ RPool A w' rb rg n B' ∧ Most B' m ∧ But (Two g rg) w w'

/-- what lies before one: both pools, the call, a copy of its bytes -/
structure Pre (A : Nat → Prop) (w2 : World) (s b g rb rg n : Nat) (B : Nat → Buf) (kd oi oa ob : Int) (va : Option Addr) (vc : Nat) (ba : Option Addr) (bc : Nat) (bs : List Int) (n₀ : Nat) : Prop where
  p : PoolAt w2 b g n B
  r : RPool (Av A s w2.heap.size) w2 rb rg n B
  f : Five w2 s kd oi oa ob (.slice va bs.length vc)
  row : Gro (s + 1) w2 (.slice ba bs.length bc) bs
  v : IsF (fun x => n₀ ≤ x) w2 (.slice va bs.length vc) bs
  lt : g < s ∧ rg < s ∧ b < s ∧ rb < s
  al : ∀ x, Av A s w2.heap.size x → x < w2.heap.size

section
variable {A : Nat → Prop} {w2 : World} {s b g rb rg n : Nat} {B : Nat → Buf} {kd oi oa ob : Int} {va : Option Addr} {vc : Nat} {ba : Option Addr} {bc : Nat} {bs : List Int} {n₀ : Nat}
theorem Pre.cells (P : Pre A w2 s b g rb rg n B kd oi oa ob va vc ba bc bs n₀) {W : World} (h : But (Two g rg) w2 W) : Five W s kd oi oa ob (.slice va bs.length vc) :=
  P.f.but h (fun e => by have := P.lt; rcases e with e | e <;> omega)
end

theorem pre_mk {A : Nat → Prop} {w w1 w2 : World} {b g rb rg n n₀ : Nat} {B : Nat → Buf} (H : PoolAt w b g n B) (R : RPool A w rb rg n B) (hA : ∀ x, A x → x < w.heap.size) (hg : A rg) {kd oi oa ob : Int} {va : Option Addr} {vc : Nat} {bs : List Int} (hv : IsF (fun x => n₀ ≤ x) w (.slice va bs.length vc) bs) (t : TypeId)
    (e1 : w1 = w.alloc (.cells #[.int .i64 kd, .int .i64 oi, .int .i64 oa, .int .i64 ob, .slice va bs.length vc] t)) {ba : Option Addr} {bc : Nat} (hG : Gro (w.heap.size + 1) w2 (.slice ba bs.length bc) bs) (hB : Below (w.heap.size + 1) w1 w2) : Pre A w2 w.heap.size b g rb rg n B kd oi oa ob va vc ba bc bs n₀ ∧ Below w.heap.size w w2 := by
  have h1 : Below w.heap.size w w1 := by rw [e1]; exact (Below.refl _ w).alloc (Nat.le_refl _) _
  have h2 : Below w.heap.size w w2 := h1.trans (hB.mono (by omega))
  have hs := h2.size
  have f1 : Five w1 w.heap.size kd oi oa ob (.slice va bs.length vc) := by rw [e1]; exact Five.new w kd oi oa ob _ t
  refine ⟨⟨H.later h2, (R.avoid (A' := Av A w.heap.size w2.heap.size) (fun x hx e => e.elim id (fun e => by omega)) (.inl hg)).later h2, ?_, hG, hv.but (K := fun _ => False) (But.of_below h2) (fun _ e => e.elim), ⟨H.glt, R.glt, H.blt, R.blt⟩, fun x e => e.elim (fun e => by have := hA x e; omega) (fun e => e.2)⟩, h2⟩
  have hc : ∀ k, w2.cell? ⟨w.heap.size, k, none⟩ = w1.cell? ⟨w.heap.size, k, none⟩ := fun k => hB.cell (p := ⟨w.heap.size, k, none⟩) (by show w.heap.size < w.heap.size + 1; omega)
  exact ⟨(hc 0).trans f1.c0, (hc 1).trans f1.c1, (hc 2).trans f1.c2, (hc 3).trans f1.c3, (hc 4).trans f1.c4⟩


set_option maxRecDepth 100000 in
set_option maxHeartbeats 4000000 in
theorem does_0 {A : Nat → Prop} {w : World} {b g rb rg n n₀ m : Nat} {B : Nat → Buf} (H : PoolAt w b g n B) (R : RPool A w rb rg n B) (hA : ∀ x, A x → x < w.heap.size) (hg : A g) (hrg : A rg) (hne : g ≠ rg) (hb1 : b ≠ rg) (hb2 : rb ≠ g) (hn1 : n₀ ≤ g) (hn2 : n₀ ≤ rg) (hM : Most B m) (hm : m ≤ 2513169434843) (oi oa ob : Int) (va : Option Addr) (vc : Nat) (bs : List Int) (hv : IsF (fun x => n₀ ≤ x) w (.slice va bs.length vc) bs) (hl : bs.length ≤ 140737488351232) :
    Calls Try.prog 10 #[.pointer (some ⟨b, 0, none⟩), .pointer (some ⟨rb, 0, none⟩), .agg #[.int .i64 0, .int .i64 oi, .int .i64 oa, .int .i64 ob, .slice va bs.length vc]] w (Both A b g rb rg n (m + 1) w) := by
  have MK := hide (fun (w1 w2 : World) (e1 : w1 = w.alloc (.cells #[.int .i64 0, .int .i64 oi, .int .i64 oa, .int .i64 ob, .slice va bs.length vc] 34)) (ba : Option Addr) (bc : Nat) (hG : Gro (w.heap.size + 1) w2 (.slice ba bs.length bc) bs) (hB : Below (w.heap.size + 1) w1 w2) => pre_mk H R hA hrg hv 34 e1 hG hB)
  have V0 := hide (hv.alloc (.cells #[.int .i64 0, .int .i64 oi, .int .i64 oa, .int .i64 ob, .slice va bs.length vc] 34))
  have HA := hide hA
  have AG := hide hg
  have ARG := hide hrg
  have NE := hide hne
  have NB1 := hide hb1
  have NB2 := hide hb2
  have N1 := hide hn1
  have N2 := hide hn2
  have MM := hide hM
  clear H R hA hg hrg hne hb1 hb2 hn1 hn2 hM hv
  go_enter Try.func10, Try.ntmps10
  go_wp2_with (at_builtin; refine wpList_grow rfl _ _ rfl rfl (w.heap.size + 1) (fun x => n₀ ≤ x) _ _ [] bs rfl rfl (Gro.nil _ _) V0.out (by simp) (by simp; omega) bs (List.nil_append _) ?_)
  intro ba bc w2 hbc hG hB
  obtain ⟨hP, hBW⟩ := MK.out _ w2 rfl ba bc hG hB
  have P := hide hP
  have BW := hide hBW
  obtain ⟨s, hs⟩ : ∃ s, s = w.heap.size := ⟨_, rfl⟩
  rw [← hs] at P BW ⊢
  have HS := hide hs
  clear hs MK V0 hG hB hP hBW hbc
  have c0 := P.out.f.c0
  have BK : Hid (∀ {C : Nat → Buf} {X : World}, RPool (Av A s w2.heap.size) X rb rg n C → RPool A X rb rg n C) := fun {C X} h => h.avoid (fun x _ e => .inl e) ARG.out
  have FIN : Hid (∀ X, But (Two g rg) w2 X → But (Two g rg) w X) := fun X h => (But.of_below (by have := BW.out; rw [HS.out] at this; exact this)).trans h

  rcases least B n with ⟨j, hj, hr, hlow⟩ | hall
  · have G := hide (Get_yes P.out.p j hj hr hlow)
    have GR := hide (fun (X : World) (h : RPool (Av A s w2.heap.size) X rb rg n B) => rGet_yes h j hj hr hlow)
    clear hlow hr
    go_wp2_with fail
    refine G.out.mono ?_
    rintro e w3 ⟨rfl, p3, b3⟩
    have R3 := hide (P.out.r.but b3 (fun e => NB2.out e) (fun e => NE.out (Eq.symm e)) (fun x e => e ▸ .inl AG.out))
    have P3 := hide p3
    have q3 : But (Two g rg) w2 w3 := one_two b3
    clear G p3 b3
    go_wp2_with fail
    refine (GR.out _ R3.out).mono ?_
    rintro e w4 ⟨rfl, r4, b4⟩
    have P4 := hide (P3.out.but b4 (fun e => NB1.out e) (fun e => NE.out e))
    have R4 := hide r4
    have B4 := hide (q3.trans (one_two' b4))
    clear GR r4 b4 q3
    go_wp2
    go_ret
    exact ⟨rfl, upd B j ⟨1, [], []⟩, P4.out, BK.out R4.out, MM.out.upd (show 1 ≤ m + 1 by omega), FIN.out _ B4.out⟩
  · have G := hide (Get_no P.out.p hall)
    have GR := hide (rGet_no P.out.r hall)
    clear hall
    go_wp2_with fail
    refine G.out.mono ?_
    rintro e w3 ⟨rfl, rfl⟩
    clear G
    go_wp2_with fail
    refine GR.out.mono ?_
    rintro e w4 ⟨rfl, rfl⟩
    clear GR
    go_wp2
    go_ret
    exact ⟨rfl, B, P.out.p, BK.out P.out.r, MM.out.more, FIN.out _ (But.refl _ _)⟩

set_option maxRecDepth 100000 in
set_option maxHeartbeats 4000000 in
theorem does_1 {A : Nat → Prop} {w : World} {b g rb rg n n₀ m : Nat} {B : Nat → Buf} (H : PoolAt w b g n B) (R : RPool A w rb rg n B) (hA : ∀ x, A x → x < w.heap.size) (hg : A g) (hrg : A rg) (hne : g ≠ rg) (hb1 : b ≠ rg) (hb2 : rb ≠ g) (hn1 : n₀ ≤ g) (hn2 : n₀ ≤ rg) (hM : Most B m) (hm : m ≤ 2513169434843) (oi oa ob : Int) (va : Option Addr) (vc : Nat) (bs : List Int) (hv : IsF (fun x => n₀ ≤ x) w (.slice va bs.length vc) bs) (hl : bs.length ≤ 140737488351232) :
    Calls Try.prog 10 #[.pointer (some ⟨b, 0, none⟩), .pointer (some ⟨rb, 0, none⟩), .agg #[.int .i64 1, .int .i64 oi, .int .i64 oa, .int .i64 ob, .slice va bs.length vc]] w (Both A b g rb rg n (m + 1) w) := by
  have MK := hide (fun (w1 w2 : World) (e1 : w1 = w.alloc (.cells #[.int .i64 1, .int .i64 oi, .int .i64 oa, .int .i64 ob, .slice va bs.length vc] 34)) (ba : Option Addr) (bc : Nat) (hG : Gro (w.heap.size + 1) w2 (.slice ba bs.length bc) bs) (hB : Below (w.heap.size + 1) w1 w2) => pre_mk H R hA hrg hv 34 e1 hG hB)
  have V0 := hide (hv.alloc (.cells #[.int .i64 1, .int .i64 oi, .int .i64 oa, .int .i64 ob, .slice va bs.length vc] 34))
  have HA := hide hA
  have AG := hide hg
  have ARG := hide hrg
  have NE := hide hne
  have NB1 := hide hb1
  have NB2 := hide hb2
  have N1 := hide hn1
  have N2 := hide hn2
  have MM := hide hM
  clear H R hA hg hrg hne hb1 hb2 hn1 hn2 hM hv
  go_enter Try.func10, Try.ntmps10
  go_wp2_with (at_builtin; refine wpList_grow rfl _ _ rfl rfl (w.heap.size + 1) (fun x => n₀ ≤ x) _ _ [] bs rfl rfl (Gro.nil _ _) V0.out (by simp) (by simp; omega) bs (List.nil_append _) ?_)
  intro ba bc w2 hbc hG hB
  obtain ⟨hP, hBW⟩ := MK.out _ w2 rfl ba bc hG hB
  have P := hide hP
  have BW := hide hBW
  obtain ⟨s, hs⟩ : ∃ s, s = w.heap.size := ⟨_, rfl⟩
  rw [← hs] at P BW ⊢
  have HS := hide hs
  clear hs MK V0 hG hB hP hBW hbc
  have c0 := P.out.f.c0
  have BK : Hid (∀ {C : Nat → Buf} {X : World}, RPool (Av A s w2.heap.size) X rb rg n C → RPool A X rb rg n C) := fun {C X} h => h.avoid (fun x _ e => .inl e) ARG.out
  have FIN : Hid (∀ X, But (Two g rg) w2 X → But (Two g rg) w X) := fun X h => (But.of_below (by have := BW.out; rw [HS.out] at this; exact this)).trans h

  have q2 : But (Two g rg) w2 w2.drew := (But.refl _ _).drew
  have keepS : Hid (∀ W : World, But (Two g rg) w2 W → (W.cell? ⟨s, 1, none⟩ = some (.int .i64 oi))) := fun W hb => by
    have k := P.out.cells hb
    exact k.c1
  go_upto_region 9 with fail
  go_region_held (fun W => W.cell? ⟨s, 1, none⟩ = some (.int .i64 oi)) (exact keepS.out _ (by assumption))
    (first
      | (go_at_call 18; refine (Hold_any P.out.p.drew oi (by have := MM.out oi.toNat; omega)).mono ?_; rintro e w3 ⟨rfl, p3, b3⟩; have R3 := hide (P.out.r.drew.but b3 (fun e => NB2.out e) (fun e => NE.out (Eq.symm e)) (fun x e => e ▸ .inl AG.out)); have P3 := hide p3; have q3 : But (Two g rg) w2 w3 := q2.trans (one_two b3); have V3 := hide (P.out.v.drew.but b3 (fun x e => e ▸ N1.out)); have A3 := hide (fun x e => Nat.lt_of_lt_of_le (P.out.al x e) q3.size); clear p3 b3)
      | (go_at_call 24; refine (rHold_any R3.out oi (by have := MM.out oi.toNat; omega)).mono ?_; rintro e w4 ⟨rfl, r4, b4⟩; have P4 := hide (P3.out.but b4 (fun e => NB1.out e) (fun e => NE.out e)); have R4 := hide r4; have q4 : But (Two g rg) w2 w4 := q3.trans (one_two' b4); clear r4 b4))
  have B4 := hide q4
  clear q2 q3 q4 keepS

  go_wp2
  go_ret
  exact ⟨rfl, hoB n B oi, P4.out, BK.out R4.out, MM.out.ho oi, FIN.out _ B4.out⟩

set_option maxRecDepth 100000 in
set_option maxHeartbeats 4000000 in
theorem does_2 {A : Nat → Prop} {w : World} {b g rb rg n n₀ m : Nat} {B : Nat → Buf} (H : PoolAt w b g n B) (R : RPool A w rb rg n B) (hA : ∀ x, A x → x < w.heap.size) (hg : A g) (hrg : A rg) (hne : g ≠ rg) (hb1 : b ≠ rg) (hb2 : rb ≠ g) (hn1 : n₀ ≤ g) (hn2 : n₀ ≤ rg) (hM : Most B m) (hm : m ≤ 2513169434843) (oi oa ob : Int) (va : Option Addr) (vc : Nat) (bs : List Int) (hv : IsF (fun x => n₀ ≤ x) w (.slice va bs.length vc) bs) (hl : bs.length ≤ 140737488351232) :
    Calls Try.prog 10 #[.pointer (some ⟨b, 0, none⟩), .pointer (some ⟨rb, 0, none⟩), .agg #[.int .i64 2, .int .i64 oi, .int .i64 oa, .int .i64 ob, .slice va bs.length vc]] w (Both A b g rb rg n (m + 1) w) := by
  have MK := hide (fun (w1 w2 : World) (e1 : w1 = w.alloc (.cells #[.int .i64 2, .int .i64 oi, .int .i64 oa, .int .i64 ob, .slice va bs.length vc] 34)) (ba : Option Addr) (bc : Nat) (hG : Gro (w.heap.size + 1) w2 (.slice ba bs.length bc) bs) (hB : Below (w.heap.size + 1) w1 w2) => pre_mk H R hA hrg hv 34 e1 hG hB)
  have V0 := hide (hv.alloc (.cells #[.int .i64 2, .int .i64 oi, .int .i64 oa, .int .i64 ob, .slice va bs.length vc] 34))
  have HA := hide hA
  have AG := hide hg
  have ARG := hide hrg
  have NE := hide hne
  have NB1 := hide hb1
  have NB2 := hide hb2
  have N1 := hide hn1
  have N2 := hide hn2
  have MM := hide hM
  clear H R hA hg hrg hne hb1 hb2 hn1 hn2 hM hv
  go_enter Try.func10, Try.ntmps10
  go_wp2_with (at_builtin; refine wpList_grow rfl _ _ rfl rfl (w.heap.size + 1) (fun x => n₀ ≤ x) _ _ [] bs rfl rfl (Gro.nil _ _) V0.out (by simp) (by simp; omega) bs (List.nil_append _) ?_)
  intro ba bc w2 hbc hG hB
  obtain ⟨hP, hBW⟩ := MK.out _ w2 rfl ba bc hG hB
  have P := hide hP
  have BW := hide hBW
  obtain ⟨s, hs⟩ : ∃ s, s = w.heap.size := ⟨_, rfl⟩
  rw [← hs] at P BW ⊢
  have HS := hide hs
  clear hs MK V0 hG hB hP hBW hbc
  have c0 := P.out.f.c0
  have BK : Hid (∀ {C : Nat → Buf} {X : World}, RPool (Av A s w2.heap.size) X rb rg n C → RPool A X rb rg n C) := fun {C X} h => h.avoid (fun x _ e => .inl e) ARG.out
  have FIN : Hid (∀ X, But (Two g rg) w2 X → But (Two g rg) w X) := fun X h => (But.of_below (by have := BW.out; rw [HS.out] at this; exact this)).trans h

  have q2 : But (Two g rg) w2 w2.drew := (But.refl _ _).drew
  have keepS : Hid (∀ W : World, But (Two g rg) w2 W → (W.cell? ⟨s, 1, none⟩ = some (.int .i64 oi))) := fun W hb => by
    have k := P.out.cells hb
    exact k.c1
  go_upto_region 11 with fail
  go_region_held (fun W => W.cell? ⟨s, 1, none⟩ = some (.int .i64 oi)) (exact keepS.out _ (by assumption))
    (first
      | (go_at_call 20; refine (Free_any P.out.p.drew oi (by have := MM.out oi.toNat; omega)).mono ?_; rintro e w3 ⟨rfl, p3, b3⟩; have R3 := hide (P.out.r.drew.but b3 (fun e => NB2.out e) (fun e => NE.out (Eq.symm e)) (fun x e => e ▸ .inl AG.out)); have P3 := hide p3; have q3 : But (Two g rg) w2 w3 := q2.trans (one_two b3); have V3 := hide (P.out.v.drew.but b3 (fun x e => e ▸ N1.out)); have A3 := hide (fun x e => Nat.lt_of_lt_of_le (P.out.al x e) q3.size); clear p3 b3)
      | (go_at_call 25; refine (rFree_any R3.out oi (by have := MM.out oi.toNat; omega)).mono ?_; rintro e w4 ⟨rfl, r4, b4⟩; have P4 := hide (P3.out.but b4 (fun e => NB1.out e) (fun e => NE.out e)); have R4 := hide r4; have q4 : But (Two g rg) w2 w4 := q3.trans (one_two' b4); clear r4 b4))
  have B4 := hide q4
  clear q2 q3 q4 keepS

  go_wp2
  go_ret
  exact ⟨rfl, frB n B oi, P4.out, BK.out R4.out, MM.out.fr oi, FIN.out _ B4.out⟩

set_option maxRecDepth 100000 in
set_option maxHeartbeats 4000000 in
theorem does_3 {A : Nat → Prop} {w : World} {b g rb rg n n₀ m : Nat} {B : Nat → Buf} (H : PoolAt w b g n B) (R : RPool A w rb rg n B) (hA : ∀ x, A x → x < w.heap.size) (hg : A g) (hrg : A rg) (hne : g ≠ rg) (hb1 : b ≠ rg) (hb2 : rb ≠ g) (hn1 : n₀ ≤ g) (hn2 : n₀ ≤ rg) (hM : Most B m) (_ : m ≤ 2513169434843) (oi oa ob : Int) (va : Option Addr) (vc : Nat) (bs : List Int) (hv : IsF (fun x => n₀ ≤ x) w (.slice va bs.length vc) bs) (hl : bs.length ≤ 140737488351232) :
    Calls Try.prog 10 #[.pointer (some ⟨b, 0, none⟩), .pointer (some ⟨rb, 0, none⟩), .agg #[.int .i64 3, .int .i64 oi, .int .i64 oa, .int .i64 ob, .slice va bs.length vc]] w (Both A b g rb rg n (m + 1) w) := by
  have MK := hide (fun (w1 w2 : World) (e1 : w1 = w.alloc (.cells #[.int .i64 3, .int .i64 oi, .int .i64 oa, .int .i64 ob, .slice va bs.length vc] 34)) (ba : Option Addr) (bc : Nat) (hG : Gro (w.heap.size + 1) w2 (.slice ba bs.length bc) bs) (hB : Below (w.heap.size + 1) w1 w2) => pre_mk H R hA hrg hv 34 e1 hG hB)
  have V0 := hide (hv.alloc (.cells #[.int .i64 3, .int .i64 oi, .int .i64 oa, .int .i64 ob, .slice va bs.length vc] 34))
  have HA := hide hA
  have AG := hide hg
  have ARG := hide hrg
  have NE := hide hne
  have NB1 := hide hb1
  have NB2 := hide hb2
  have N1 := hide hn1
  have N2 := hide hn2
  have MM := hide hM
  clear H R hA hg hrg hne hb1 hb2 hn1 hn2 hM hv
  go_enter Try.func10, Try.ntmps10
  go_wp2_with (at_builtin; refine wpList_grow rfl _ _ rfl rfl (w.heap.size + 1) (fun x => n₀ ≤ x) _ _ [] bs rfl rfl (Gro.nil _ _) V0.out (by simp) (by simp; omega) bs (List.nil_append _) ?_)
  intro ba bc w2 hbc hG hB
  obtain ⟨hP, hBW⟩ := MK.out _ w2 rfl ba bc hG hB
  have P := hide hP
  have BW := hide hBW
  obtain ⟨s, hs⟩ : ∃ s, s = w.heap.size := ⟨_, rfl⟩
  rw [← hs] at P BW ⊢
  have HS := hide hs
  clear hs MK V0 hG hB hP hBW hbc
  have c0 := P.out.f.c0
  have BK : Hid (∀ {C : Nat → Buf} {X : World}, RPool (Av A s w2.heap.size) X rb rg n C → RPool A X rb rg n C) := fun {C X} h => h.avoid (fun x _ e => .inl e) ARG.out
  have FIN : Hid (∀ X, But (Two g rg) w2 X → But (Two g rg) w X) := fun X h => (But.of_below (by have := BW.out; rw [HS.out] at this; exact this)).trans h

  have q2 : But (Two g rg) w2 w2.drew := (But.refl _ _).drew
  have keepS : Hid (∀ W : World, But (Two g rg) w2 W → (W.cell? ⟨s, 1, none⟩ = some (.int .i64 oi) ∧ W.cell? ⟨s, 4, none⟩ = some (.slice va bs.length vc))) := fun W hb => by
    have k := P.out.cells hb
    exact ⟨k.c1, k.c4⟩
  go_upto_region 13 with fail
  go_region_held (fun W => W.cell? ⟨s, 1, none⟩ = some (.int .i64 oi) ∧ W.cell? ⟨s, 4, none⟩ = some (.slice va bs.length vc)) (exact keepS.out _ (by assumption))
    (first
      | (go_at_call 16; refine (Set_any P.out.p.drew oi _ bs ((P.out.row.isF (A := fun _ => False) (fun _ _ => id)).drew)).mono ?_; rintro e w3 ⟨rfl, p3, b3⟩; have R3 := hide (P.out.r.drew.but b3 (fun e => NB2.out e) (fun e => NE.out (Eq.symm e)) (fun x e => e ▸ .inl AG.out)); have P3 := hide p3; have q3 : But (Two g rg) w2 w3 := q2.trans (one_two b3); have V3 := hide (P.out.v.drew.but b3 (fun x e => e ▸ N1.out)); have A3 := hide (fun x e => Nat.lt_of_lt_of_le (P.out.al x e) q3.size); clear p3 b3)
      | (go_at_call 26; refine (rSet_any R3.out A3.out oi _ bs V3.out).mono ?_; rintro e w4 ⟨rfl, r4, b4⟩; have P4 := hide (P3.out.but b4 (fun e => NB1.out e) (fun e => NE.out e)); have R4 := hide r4; have q4 : But (Two g rg) w2 w4 := q3.trans (one_two' b4); clear r4 b4))
  have B4 := hide q4
  clear q2 q3 q4 keepS

  have G4 := hide (P.out.row.keep B4.out (fun k e1 e2 => by have h1 := (P.out.row.blk k e1).1; have h2 := P.out.lt; rcases e2 with e2 | e2 <;> omega))
  have LT := hide P.out.lt
  have Z4 := hide (Nat.le_trans (Nat.le_refl w2.heap.size) B4.out.size)
  have GB : Hid (∀ k, ba = some ⟨k, 0, none⟩ → s ≤ k ∧ k < w2.heap.size) := fun k e => by
    have h1 := P.out.row.blk k (by rw [e]; rfl)
    exact ⟨by omega, h1.2⟩
  clear c0 P
  generalize hbl : bs.length = nb at *
  have EB := hide hbl
  clear hbl
  go_wp2
  go_loopw [13] (fun vi wr => ∃ (i : Nat) (xs : List Int), vi = .int .i64 i ∧ i ≤ nb ∧ Hid (xs.length = nb) ∧ Hid (Gro (s + 1) wr (.slice ba nb bc) xs) ∧ Hid (But (fun k => ba = some ⟨k, 0, none⟩) w4 wr)) (fun vi _ => nb - (intOf vi).toNat)
  case atStart => exact ⟨0, bs, rfl, Nat.zero_le _, EB.out, G4.out, But.refl _ _⟩
  case round =>
    obtain ⟨i, xs, rfl, hi, hxl, hGX, hBe⟩ := hrel
    by_cases hil : i < nb
    · obtain ⟨gg, rfl, hgg, hc, hf⟩ := hGX.out.block (by rw [hxl.out]; omega)
      have c9 := hc i (by rw [hxl.out]; exact hil)
      have f9 := hf i
      have zi : (i : Int) < nb := by omega
      clear hc hf
      obtain ⟨z, ez⟩ : ∃ z, xs[i]?.getD 0 = z := ⟨_, rfl⟩
      rw [ez] at c9
      clear ez
      go_wp2
      go_roundw
      case rel => exact ⟨i + 1, xs.set i ((z + 1) % 256), by go_num, by omega, by show _ = _; rw [List.length_set]; exact hxl.out, hGX.out.store hxl.out.symm i _, hBe.out.setCell (p := ⟨gg, i, none⟩) (.inr rfl) _⟩
      case measure => simp [intOf]; omega
    · obtain rfl : i = nb := by omega
      go_wp2
      go_ret
      have bF := hBe.out
      have l0 := LT.out
      refine ⟨rfl, stB n B oi bs, P4.out.but bF (fun e => by have := GB.out b e; omega) (fun e => by have := GB.out g e; omega), ?_, MM.out.st oi bs, ?_⟩
      · exact BK.out (R4.out.but bF (fun e => by have := GB.out rb e; omega) (fun e => by have := GB.out rg e; omega) (fun x e => .inr (GB.out x e)))
      · have h5 := (FIN.out _ B4.out)
        have hs := HS.out
        exact h5.trans' bF (fun x hx e => by have := GB.out x e; omega)

set_option maxRecDepth 100000 in
set_option maxHeartbeats 4000000 in
theorem does_4 {A : Nat → Prop} {w : World} {b g rb rg n n₀ m : Nat} {B : Nat → Buf} (H : PoolAt w b g n B) (R : RPool A w rb rg n B) (hA : ∀ x, A x → x < w.heap.size) (hg : A g) (hrg : A rg) (hne : g ≠ rg) (hb1 : b ≠ rg) (hb2 : rb ≠ g) (hn1 : n₀ ≤ g) (hn2 : n₀ ≤ rg) (hM : Most B m) (_ : m ≤ 2513169434843) (oi oa ob : Int) (va : Option Addr) (vc : Nat) (bs : List Int) (hv : IsF (fun x => n₀ ≤ x) w (.slice va bs.length vc) bs) (hl : bs.length ≤ 140737488351232) :
    Calls Try.prog 10 #[.pointer (some ⟨b, 0, none⟩), .pointer (some ⟨rb, 0, none⟩), .agg #[.int .i64 4, .int .i64 oi, .int .i64 oa, .int .i64 ob, .slice va bs.length vc]] w (Both A b g rb rg n (m + 1) w) := by
  have MK := hide (fun (w1 w2 : World) (e1 : w1 = w.alloc (.cells #[.int .i64 4, .int .i64 oi, .int .i64 oa, .int .i64 ob, .slice va bs.length vc] 34)) (ba : Option Addr) (bc : Nat) (hG : Gro (w.heap.size + 1) w2 (.slice ba bs.length bc) bs) (hB : Below (w.heap.size + 1) w1 w2) => pre_mk H R hA hrg hv 34 e1 hG hB)
  have V0 := hide (hv.alloc (.cells #[.int .i64 4, .int .i64 oi, .int .i64 oa, .int .i64 ob, .slice va bs.length vc] 34))
  have HA := hide hA
  have AG := hide hg
  have ARG := hide hrg
  have NE := hide hne
  have NB1 := hide hb1
  have NB2 := hide hb2
  have N1 := hide hn1
  have N2 := hide hn2
  have MM := hide hM
  clear H R hA hg hrg hne hb1 hb2 hn1 hn2 hM hv
  go_enter Try.func10, Try.ntmps10
  go_wp2_with (at_builtin; refine wpList_grow rfl _ _ rfl rfl (w.heap.size + 1) (fun x => n₀ ≤ x) _ _ [] bs rfl rfl (Gro.nil _ _) V0.out (by simp) (by simp; omega) bs (List.nil_append _) ?_)
  intro ba bc w2 hbc hG hB
  obtain ⟨hP, hBW⟩ := MK.out _ w2 rfl ba bc hG hB
  have P := hide hP
  have BW := hide hBW
  obtain ⟨s, hs⟩ : ∃ s, s = w.heap.size := ⟨_, rfl⟩
  rw [← hs] at P BW ⊢
  have HS := hide hs
  clear hs MK V0 hG hB hP hBW hbc
  have c0 := P.out.f.c0
  have BK : Hid (∀ {C : Nat → Buf} {X : World}, RPool (Av A s w2.heap.size) X rb rg n C → RPool A X rb rg n C) := fun {C X} h => h.avoid (fun x _ e => .inl e) ARG.out
  have FIN : Hid (∀ X, But (Two g rg) w2 X → But (Two g rg) w X) := fun X h => (But.of_below (by have := BW.out; rw [HS.out] at this; exact this)).trans h

  have q2 : But (Two g rg) w2 w2.drew := (But.refl _ _).drew
  have keepS : Hid (∀ W : World, But (Two g rg) w2 W → (W.cell? ⟨s, 1, none⟩ = some (.int .i64 oi) ∧ W.cell? ⟨s, 4, none⟩ = some (.slice va bs.length vc))) := fun W hb => by
    have k := P.out.cells hb
    exact ⟨k.c1, k.c4⟩
  go_upto_region 15 with fail
  go_region_held (fun W => W.cell? ⟨s, 1, none⟩ = some (.int .i64 oi) ∧ W.cell? ⟨s, 4, none⟩ = some (.slice va bs.length vc)) (exact keepS.out _ (by assumption))
    (first
      | (go_at_call 21; refine (Append_any P.out.p.drew oi _ bs ((P.out.row.isF (A := fun _ => False) (fun _ _ => id)).drew)).mono ?_; rintro e w3 ⟨rfl, p3, b3⟩; have R3 := hide (P.out.r.drew.but b3 (fun e => NB2.out e) (fun e => NE.out (Eq.symm e)) (fun x e => e ▸ .inl AG.out)); have P3 := hide p3; have q3 : But (Two g rg) w2 w3 := q2.trans (one_two b3); have V3 := hide (P.out.v.drew.but b3 (fun x e => e ▸ N1.out)); have A3 := hide (fun x e => Nat.lt_of_lt_of_le (P.out.al x e) q3.size); clear p3 b3)
      | (go_at_call 27; refine (rAppend_any R3.out A3.out oi _ bs V3.out hl).mono ?_; rintro e w4 ⟨rfl, r4, b4⟩; have P4 := hide (P3.out.but b4 (fun e => NB1.out e) (fun e => NE.out e)); have R4 := hide r4; have q4 : But (Two g rg) w2 w4 := q3.trans (one_two' b4); clear r4 b4))
  have B4 := hide q4
  clear q2 q3 q4 keepS

  have G4 := hide (P.out.row.keep B4.out (fun k e1 e2 => by have h1 := (P.out.row.blk k e1).1; have h2 := P.out.lt; rcases e2 with e2 | e2 <;> omega))
  have LT := hide P.out.lt
  have Z4 := hide (Nat.le_trans (Nat.le_refl w2.heap.size) B4.out.size)
  have GB : Hid (∀ k, ba = some ⟨k, 0, none⟩ → s ≤ k ∧ k < w2.heap.size) := fun k e => by
    have h1 := P.out.row.blk k (by rw [e]; rfl)
    exact ⟨by omega, h1.2⟩
  clear c0 P
  generalize hbl : bs.length = nb at *
  have EB := hide hbl
  clear hbl
  go_wp2
  go_loopw [13] (fun vi wr => ∃ (i : Nat) (xs : List Int), vi = .int .i64 i ∧ i ≤ nb ∧ Hid (xs.length = nb) ∧ Hid (Gro (s + 1) wr (.slice ba nb bc) xs) ∧ Hid (But (fun k => ba = some ⟨k, 0, none⟩) w4 wr)) (fun vi _ => nb - (intOf vi).toNat)
  case atStart => exact ⟨0, bs, rfl, Nat.zero_le _, EB.out, G4.out, But.refl _ _⟩
  case round =>
    obtain ⟨i, xs, rfl, hi, hxl, hGX, hBe⟩ := hrel
    by_cases hil : i < nb
    · obtain ⟨gg, rfl, hgg, hc, hf⟩ := hGX.out.block (by rw [hxl.out]; omega)
      have c9 := hc i (by rw [hxl.out]; exact hil)
      have f9 := hf i
      have zi : (i : Int) < nb := by omega
      clear hc hf
      obtain ⟨z, ez⟩ : ∃ z, xs[i]?.getD 0 = z := ⟨_, rfl⟩
      rw [ez] at c9
      clear ez
      go_wp2
      go_roundw
      case rel => exact ⟨i + 1, xs.set i ((z + 1) % 256), by go_num, by omega, by show _ = _; rw [List.length_set]; exact hxl.out, hGX.out.store hxl.out.symm i _, hBe.out.setCell (p := ⟨gg, i, none⟩) (.inr rfl) _⟩
      case measure => simp [intOf]; omega
    · obtain rfl : i = nb := by omega
      go_wp2
      go_ret
      have bF := hBe.out
      have l0 := LT.out
      refine ⟨rfl, apB n B oi bs, P4.out.but bF (fun e => by have := GB.out b e; omega) (fun e => by have := GB.out g e; omega), ?_, MM.out.ap oi bs, ?_⟩
      · exact BK.out (R4.out.but bF (fun e => by have := GB.out rb e; omega) (fun e => by have := GB.out rg e; omega) (fun x e => .inr (GB.out x e)))
      · have h5 := (FIN.out _ B4.out)
        have hs := HS.out
        exact h5.trans' bF (fun x hx e => by have := GB.out x e; omega)

set_option maxRecDepth 100000 in
set_option maxHeartbeats 4000000 in
theorem does_5 {A : Nat → Prop} {w : World} {b g rb rg n n₀ m : Nat} {B : Nat → Buf} (H : PoolAt w b g n B) (R : RPool A w rb rg n B) (hA : ∀ x, A x → x < w.heap.size) (hg : A g) (hrg : A rg) (hne : g ≠ rg) (hb1 : b ≠ rg) (hb2 : rb ≠ g) (hn1 : n₀ ≤ g) (hn2 : n₀ ≤ rg) (hM : Most B m) (_ : m ≤ 2513169434843) (oi oa ob : Int) (va : Option Addr) (vc : Nat) (bs : List Int) (hv : IsF (fun x => n₀ ≤ x) w (.slice va bs.length vc) bs) (hl : bs.length ≤ 140737488351232) :
    Calls Try.prog 10 #[.pointer (some ⟨b, 0, none⟩), .pointer (some ⟨rb, 0, none⟩), .agg #[.int .i64 5, .int .i64 oi, .int .i64 oa, .int .i64 ob, .slice va bs.length vc]] w (Both A b g rb rg n (m + 1) w) := by
  have MK := hide (fun (w1 w2 : World) (e1 : w1 = w.alloc (.cells #[.int .i64 5, .int .i64 oi, .int .i64 oa, .int .i64 ob, .slice va bs.length vc] 34)) (ba : Option Addr) (bc : Nat) (hG : Gro (w.heap.size + 1) w2 (.slice ba bs.length bc) bs) (hB : Below (w.heap.size + 1) w1 w2) => pre_mk H R hA hrg hv 34 e1 hG hB)
  have V0 := hide (hv.alloc (.cells #[.int .i64 5, .int .i64 oi, .int .i64 oa, .int .i64 ob, .slice va bs.length vc] 34))
  have HA := hide hA
  have AG := hide hg
  have ARG := hide hrg
  have NE := hide hne
  have NB1 := hide hb1
  have NB2 := hide hb2
  have N1 := hide hn1
  have N2 := hide hn2
  have MM := hide hM
  clear H R hA hg hrg hne hb1 hb2 hn1 hn2 hM hv
  go_enter Try.func10, Try.ntmps10
  go_wp2_with (at_builtin; refine wpList_grow rfl _ _ rfl rfl (w.heap.size + 1) (fun x => n₀ ≤ x) _ _ [] bs rfl rfl (Gro.nil _ _) V0.out (by simp) (by simp; omega) bs (List.nil_append _) ?_)
  intro ba bc w2 hbc hG hB
  obtain ⟨hP, hBW⟩ := MK.out _ w2 rfl ba bc hG hB
  have P := hide hP
  have BW := hide hBW
  obtain ⟨s, hs⟩ : ∃ s, s = w.heap.size := ⟨_, rfl⟩
  rw [← hs] at P BW ⊢
  have HS := hide hs
  clear hs MK V0 hG hB hP hBW hbc
  have c0 := P.out.f.c0
  have BK : Hid (∀ {C : Nat → Buf} {X : World}, RPool (Av A s w2.heap.size) X rb rg n C → RPool A X rb rg n C) := fun {C X} h => h.avoid (fun x _ e => .inl e) ARG.out
  have FIN : Hid (∀ X, But (Two g rg) w2 X → But (Two g rg) w X) := fun X h => (But.of_below (by have := BW.out; rw [HS.out] at this; exact this)).trans h

  have q2 : But (Two g rg) w2 w2.drew := (But.refl _ _).drew
  have keepS : Hid (∀ W : World, But (Two g rg) w2 W → (W.cell? ⟨s, 1, none⟩ = some (.int .i64 oi) ∧ W.cell? ⟨s, 2, none⟩ = some (.int .i64 oa) ∧ W.cell? ⟨s, 3, none⟩ = some (.int .i64 ob))) := fun W hb => by
    have k := P.out.cells hb
    exact ⟨k.c1, k.c2, k.c3⟩
  go_upto_region 17 with fail
  go_region_held (fun W => W.cell? ⟨s, 1, none⟩ = some (.int .i64 oi) ∧ W.cell? ⟨s, 2, none⟩ = some (.int .i64 oa) ∧ W.cell? ⟨s, 3, none⟩ = some (.int .i64 ob)) (exact keepS.out _ (by assumption))
    (first
      | (go_at_call 22; refine (Trim_any P.out.p.drew oi oa ob).mono ?_; rintro e w3 ⟨rfl, p3, b3⟩; have R3 := hide (P.out.r.drew.but b3 (fun e => NB2.out e) (fun e => NE.out (Eq.symm e)) (fun x e => e ▸ .inl AG.out)); have P3 := hide p3; have q3 : But (Two g rg) w2 w3 := q2.trans (one_two b3); have V3 := hide (P.out.v.drew.but b3 (fun x e => e ▸ N1.out)); have A3 := hide (fun x e => Nat.lt_of_lt_of_le (P.out.al x e) q3.size); clear p3 b3)
      | (go_at_call 28; refine (rTrim_any R3.out A3.out oi oa ob).mono ?_; rintro e w4 ⟨rfl, r4, b4⟩; have P4 := hide (P3.out.but b4 (fun e => NB1.out e) (fun e => NE.out e)); have R4 := hide r4; have q4 : But (Two g rg) w2 w4 := q3.trans (one_two' b4); clear r4 b4))
  have B4 := hide q4
  clear q2 q3 q4 keepS

  go_wp2
  go_ret
  exact ⟨rfl, trB n B oi oa ob, P4.out, BK.out R4.out, MM.out.tr oi oa ob, FIN.out _ B4.out⟩

set_option maxRecDepth 100000 in
set_option maxHeartbeats 4000000 in
theorem does_6 {A : Nat → Prop} {w : World} {b g rb rg n n₀ m : Nat} {B : Nat → Buf} (H : PoolAt w b g n B) (R : RPool A w rb rg n B) (hA : ∀ x, A x → x < w.heap.size) (hg : A g) (hrg : A rg) (hne : g ≠ rg) (hb1 : b ≠ rg) (hb2 : rb ≠ g) (hn1 : n₀ ≤ g) (hn2 : n₀ ≤ rg) (hM : Most B m) (_ : m ≤ 2513169434843) (oi oa ob : Int) (va : Option Addr) (vc : Nat) (bs : List Int) (hv : IsF (fun x => n₀ ≤ x) w (.slice va bs.length vc) bs) (hl : bs.length ≤ 140737488351232) :
    Calls Try.prog 10 #[.pointer (some ⟨b, 0, none⟩), .pointer (some ⟨rb, 0, none⟩), .agg #[.int .i64 6, .int .i64 oi, .int .i64 oa, .int .i64 ob, .slice va bs.length vc]] w (Both A b g rb rg n (m + 1) w) := by
  have MK := hide (fun (w1 w2 : World) (e1 : w1 = w.alloc (.cells #[.int .i64 6, .int .i64 oi, .int .i64 oa, .int .i64 ob, .slice va bs.length vc] 34)) (ba : Option Addr) (bc : Nat) (hG : Gro (w.heap.size + 1) w2 (.slice ba bs.length bc) bs) (hB : Below (w.heap.size + 1) w1 w2) => pre_mk H R hA hrg hv 34 e1 hG hB)
  have V0 := hide (hv.alloc (.cells #[.int .i64 6, .int .i64 oi, .int .i64 oa, .int .i64 ob, .slice va bs.length vc] 34))
  have HA := hide hA
  have AG := hide hg
  have ARG := hide hrg
  have NE := hide hne
  have NB1 := hide hb1
  have NB2 := hide hb2
  have N1 := hide hn1
  have N2 := hide hn2
  have MM := hide hM
  clear H R hA hg hrg hne hb1 hb2 hn1 hn2 hM hv
  go_enter Try.func10, Try.ntmps10
  go_wp2_with (at_builtin; refine wpList_grow rfl _ _ rfl rfl (w.heap.size + 1) (fun x => n₀ ≤ x) _ _ [] bs rfl rfl (Gro.nil _ _) V0.out (by simp) (by simp; omega) bs (List.nil_append _) ?_)
  intro ba bc w2 hbc hG hB
  obtain ⟨hP, hBW⟩ := MK.out _ w2 rfl ba bc hG hB
  have P := hide hP
  have BW := hide hBW
  obtain ⟨s, hs⟩ : ∃ s, s = w.heap.size := ⟨_, rfl⟩
  rw [← hs] at P BW ⊢
  have HS := hide hs
  clear hs MK V0 hG hB hP hBW hbc
  have c0 := P.out.f.c0
  have BK : Hid (∀ {C : Nat → Buf} {X : World}, RPool (Av A s w2.heap.size) X rb rg n C → RPool A X rb rg n C) := fun {C X} h => h.avoid (fun x _ e => .inl e) ARG.out
  have FIN : Hid (∀ X, But (Two g rg) w2 X → But (Two g rg) w X) := fun X h => (But.of_below (by have := BW.out; rw [HS.out] at this; exact this)).trans h

  have q2 : But (Two g rg) w2 w2.drew := (But.refl _ _).drew
  have keepS : Hid (∀ W : World, But (Two g rg) w2 W → (W.cell? ⟨s, 1, none⟩ = some (.int .i64 oi) ∧ W.cell? ⟨s, 4, none⟩ = some (.slice va bs.length vc))) := fun W hb => by
    have k := P.out.cells hb
    exact ⟨k.c1, k.c4⟩
  go_upto_region 19 with fail
  go_region_held (fun W => W.cell? ⟨s, 1, none⟩ = some (.int .i64 oi) ∧ W.cell? ⟨s, 4, none⟩ = some (.slice va bs.length vc)) (exact keepS.out _ (by assumption))
    (first
      | (go_at_call 17; refine (Front_any P.out.p.drew oi _ bs ((P.out.row.isF (A := fun _ => False) (fun _ _ => id)).drew)).mono ?_; rintro e w3 ⟨rfl, p3, b3⟩; have R3 := hide (P.out.r.drew.but b3 (fun e => NB2.out e) (fun e => NE.out (Eq.symm e)) (fun x e => e ▸ .inl AG.out)); have P3 := hide p3; have q3 : But (Two g rg) w2 w3 := q2.trans (one_two b3); have V3 := hide (P.out.v.drew.but b3 (fun x e => e ▸ N1.out)); have A3 := hide (fun x e => Nat.lt_of_lt_of_le (P.out.al x e) q3.size); clear p3 b3)
      | (go_at_call 29; refine (rFront_any R3.out A3.out oi _ bs V3.out).mono ?_; rintro e w4 ⟨rfl, r4, b4⟩; have P4 := hide (P3.out.but b4 (fun e => NB1.out e) (fun e => NE.out e)); have R4 := hide r4; have q4 : But (Two g rg) w2 w4 := q3.trans (one_two' b4); clear r4 b4))
  have B4 := hide q4
  clear q2 q3 q4 keepS

  have G4 := hide (P.out.row.keep B4.out (fun k e1 e2 => by have h1 := (P.out.row.blk k e1).1; have h2 := P.out.lt; rcases e2 with e2 | e2 <;> omega))
  have LT := hide P.out.lt
  have Z4 := hide (Nat.le_trans (Nat.le_refl w2.heap.size) B4.out.size)
  have GB : Hid (∀ k, ba = some ⟨k, 0, none⟩ → s ≤ k ∧ k < w2.heap.size) := fun k e => by
    have h1 := P.out.row.blk k (by rw [e]; rfl)
    exact ⟨by omega, h1.2⟩
  clear c0 P
  generalize hbl : bs.length = nb at *
  have EB := hide hbl
  clear hbl
  go_wp2
  go_loopw [13] (fun vi wr => ∃ (i : Nat) (xs : List Int), vi = .int .i64 i ∧ i ≤ nb ∧ Hid (xs.length = nb) ∧ Hid (Gro (s + 1) wr (.slice ba nb bc) xs) ∧ Hid (But (fun k => ba = some ⟨k, 0, none⟩) w4 wr)) (fun vi _ => nb - (intOf vi).toNat)
  case atStart => exact ⟨0, bs, rfl, Nat.zero_le _, EB.out, G4.out, But.refl _ _⟩
  case round =>
    obtain ⟨i, xs, rfl, hi, hxl, hGX, hBe⟩ := hrel
    by_cases hil : i < nb
    · obtain ⟨gg, rfl, hgg, hc, hf⟩ := hGX.out.block (by rw [hxl.out]; omega)
      have c9 := hc i (by rw [hxl.out]; exact hil)
      have f9 := hf i
      have zi : (i : Int) < nb := by omega
      clear hc hf
      obtain ⟨z, ez⟩ : ∃ z, xs[i]?.getD 0 = z := ⟨_, rfl⟩
      rw [ez] at c9
      clear ez
      go_wp2
      go_roundw
      case rel => exact ⟨i + 1, xs.set i ((z + 1) % 256), by go_num, by omega, by show _ = _; rw [List.length_set]; exact hxl.out, hGX.out.store hxl.out.symm i _, hBe.out.setCell (p := ⟨gg, i, none⟩) (.inr rfl) _⟩
      case measure => simp [intOf]; omega
    · obtain rfl : i = nb := by omega
      go_wp2
      go_ret
      have bF := hBe.out
      have l0 := LT.out
      refine ⟨rfl, foB n B oi bs, P4.out.but bF (fun e => by have := GB.out b e; omega) (fun e => by have := GB.out g e; omega), ?_, MM.out.fo oi bs, ?_⟩
      · exact BK.out (R4.out.but bF (fun e => by have := GB.out rb e; omega) (fun e => by have := GB.out rg e; omega) (fun x e => .inr (GB.out x e)))
      · have h5 := (FIN.out _ B4.out)
        have hs := HS.out
        exact h5.trans' bF (fun x hx e => by have := GB.out x e; omega)

set_option maxRecDepth 100000 in
set_option maxHeartbeats 4000000 in
theorem does_7 {A : Nat → Prop} {w : World} {b g rb rg n n₀ m : Nat} {B : Nat → Buf} (H : PoolAt w b g n B) (R : RPool A w rb rg n B) (hA : ∀ x, A x → x < w.heap.size) (hg : A g) (hrg : A rg) (hne : g ≠ rg) (hb1 : b ≠ rg) (hb2 : rb ≠ g) (hn1 : n₀ ≤ g) (hn2 : n₀ ≤ rg) (hM : Most B m) (_ : m ≤ 2513169434843) (kd : Int) (k0 : kd ≠ 0) (k1 : kd ≠ 1) (k2 : kd ≠ 2) (k3 : kd ≠ 3) (k4 : kd ≠ 4) (k5 : kd ≠ 5) (k6 : kd ≠ 6) (oi oa ob : Int) (va : Option Addr) (vc : Nat) (bs : List Int) (hv : IsF (fun x => n₀ ≤ x) w (.slice va bs.length vc) bs) (hl : bs.length ≤ 140737488351232) :
    Calls Try.prog 10 #[.pointer (some ⟨b, 0, none⟩), .pointer (some ⟨rb, 0, none⟩), .agg #[.int .i64 kd, .int .i64 oi, .int .i64 oa, .int .i64 ob, .slice va bs.length vc]] w (Both A b g rb rg n (m + 1) w) := by
  have y0 : (kd == 0) = false := beq_no k0
  have y1 : (kd == 1) = false := beq_no k1
  have y2 : (kd == 2) = false := beq_no k2
  have y3 : (kd == 3) = false := beq_no k3
  have y4 : (kd == 4) = false := beq_no k4
  have y5 : (kd == 5) = false := beq_no k5
  have y6 : (kd == 6) = false := beq_no k6
  clear k0 k1 k2 k3 k4 k5 k6
  have MK := hide (fun (w1 w2 : World) (e1 : w1 = w.alloc (.cells #[.int .i64 kd, .int .i64 oi, .int .i64 oa, .int .i64 ob, .slice va bs.length vc] 34)) (ba : Option Addr) (bc : Nat) (hG : Gro (w.heap.size + 1) w2 (.slice ba bs.length bc) bs) (hB : Below (w.heap.size + 1) w1 w2) => pre_mk H R hA hrg hv 34 e1 hG hB)
  have V0 := hide (hv.alloc (.cells #[.int .i64 kd, .int .i64 oi, .int .i64 oa, .int .i64 ob, .slice va bs.length vc] 34))
  have HA := hide hA
  have AG := hide hg
  have ARG := hide hrg
  have NE := hide hne
  have NB1 := hide hb1
  have NB2 := hide hb2
  have N1 := hide hn1
  have N2 := hide hn2
  have MM := hide hM
  clear H R hA hg hrg hne hb1 hb2 hn1 hn2 hM hv
  go_enter Try.func10, Try.ntmps10
  go_wp2_with (at_builtin; refine wpList_grow rfl _ _ rfl rfl (w.heap.size + 1) (fun x => n₀ ≤ x) _ _ [] bs rfl rfl (Gro.nil _ _) V0.out (by simp) (by simp; omega) bs (List.nil_append _) ?_)
  intro ba bc w2 hbc hG hB
  obtain ⟨hP, hBW⟩ := MK.out _ w2 rfl ba bc hG hB
  have P := hide hP
  have BW := hide hBW
  obtain ⟨s, hs⟩ : ∃ s, s = w.heap.size := ⟨_, rfl⟩
  rw [← hs] at P BW ⊢
  have HS := hide hs
  clear hs MK V0 hG hB hP hBW hbc
  have c0 := P.out.f.c0
  have BK : Hid (∀ {C : Nat → Buf} {X : World}, RPool (Av A s w2.heap.size) X rb rg n C → RPool A X rb rg n C) := fun {C X} h => h.avoid (fun x _ e => .inl e) ARG.out
  have FIN : Hid (∀ X, But (Two g rg) w2 X → But (Two g rg) w X) := fun X h => (But.of_below (by have := BW.out; rw [HS.out] at this; exact this)).trans h

  obtain ⟨w4, rfl⟩ : ∃ w4 : World, w4 = w2 := ⟨_, rfl⟩
  have B4 : Hid (But (Two g rg) w4 w4) := But.refl _ _
  have P4 := hide P.out.p
  have R4 := hide P.out.r
  go_upto_region 20 with fail

  have G4 := hide (P.out.row.keep B4.out (fun k e1 e2 => by have h1 := (P.out.row.blk k e1).1; have h2 := P.out.lt; rcases e2 with e2 | e2 <;> omega))
  have LT := hide P.out.lt
  have Z4 := hide (Nat.le_trans (Nat.le_refl w4.heap.size) B4.out.size)
  have GB : Hid (∀ k, ba = some ⟨k, 0, none⟩ → s ≤ k ∧ k < w4.heap.size) := fun k e => by
    have h1 := P.out.row.blk k (by rw [e]; rfl)
    exact ⟨by omega, h1.2⟩
  clear c0 P
  generalize hbl : bs.length = nb at *
  have EB := hide hbl
  clear hbl
  go_wp2
  go_loopw [13] (fun vi wr => ∃ (i : Nat) (xs : List Int), vi = .int .i64 i ∧ i ≤ nb ∧ Hid (xs.length = nb) ∧ Hid (Gro (s + 1) wr (.slice ba nb bc) xs) ∧ Hid (But (fun k => ba = some ⟨k, 0, none⟩) w4 wr)) (fun vi _ => nb - (intOf vi).toNat)
  case atStart => exact ⟨0, bs, rfl, Nat.zero_le _, EB.out, G4.out, But.refl _ _⟩
  case round =>
    obtain ⟨i, xs, rfl, hi, hxl, hGX, hBe⟩ := hrel
    by_cases hil : i < nb
    · obtain ⟨gg, rfl, hgg, hc, hf⟩ := hGX.out.block (by rw [hxl.out]; omega)
      have c9 := hc i (by rw [hxl.out]; exact hil)
      have f9 := hf i
      have zi : (i : Int) < nb := by omega
      clear hc hf
      obtain ⟨z, ez⟩ : ∃ z, xs[i]?.getD 0 = z := ⟨_, rfl⟩
      rw [ez] at c9
      clear ez
      go_wp2
      go_roundw
      case rel => exact ⟨i + 1, xs.set i ((z + 1) % 256), by go_num, by omega, by show _ = _; rw [List.length_set]; exact hxl.out, hGX.out.store hxl.out.symm i _, hBe.out.setCell (p := ⟨gg, i, none⟩) (.inr rfl) _⟩
      case measure => simp [intOf]; omega
    · obtain rfl : i = nb := by omega
      go_wp2
      go_ret
      have bF := hBe.out
      have l0 := LT.out
      refine ⟨rfl, B, P4.out.but bF (fun e => by have := GB.out b e; omega) (fun e => by have := GB.out g e; omega), ?_, MM.out.more, ?_⟩
      · exact BK.out (R4.out.but bF (fun e => by have := GB.out rb e; omega) (fun e => by have := GB.out rg e; omega) (fun x e => .inr (GB.out x e)))
      · have h5 := (FIN.out _ B4.out)
        have hs := HS.out
        exact h5.trans' bF (fun x hx e => by have := GB.out x e; omega)

theorem does_any {A : Nat → Prop} {w : World} {b g rb rg n n₀ m : Nat} {B : Nat → Buf} (H : PoolAt w b g n B) (R : RPool A w rb rg n B) (hA : ∀ x, A x → x < w.heap.size) (hg : A g) (hrg : A rg) (hne : g ≠ rg) (hb1 : b ≠ rg) (hb2 : rb ≠ g) (hn1 : n₀ ≤ g) (hn2 : n₀ ≤ rg) (hM : Most B m) (hm : m ≤ 2513169434843) (kd oi oa ob : Int) (va : Option Addr) (vc : Nat) (bs : List Int) (hv : IsF (fun x => n₀ ≤ x) w (.slice va bs.length vc) bs) (hl : bs.length ≤ 140737488351232) :
    Calls Try.prog 10 #[.pointer (some ⟨b, 0, none⟩), .pointer (some ⟨rb, 0, none⟩), .agg #[.int .i64 kd, .int .i64 oi, .int .i64 oa, .int .i64 ob, .slice va bs.length vc]] w (Both A b g rb rg n (m + 1) w) := by
  by_cases k0 : kd = 0
  · subst k0; exact does_0 H R hA hg hrg hne hb1 hb2 hn1 hn2 hM hm oi oa ob va vc bs hv hl
  by_cases k1 : kd = 1
  · subst k1; exact does_1 H R hA hg hrg hne hb1 hb2 hn1 hn2 hM hm oi oa ob va vc bs hv hl
  by_cases k2 : kd = 2
  · subst k2; exact does_2 H R hA hg hrg hne hb1 hb2 hn1 hn2 hM hm oi oa ob va vc bs hv hl
  by_cases k3 : kd = 3
  · subst k3; exact does_3 H R hA hg hrg hne hb1 hb2 hn1 hn2 hM hm oi oa ob va vc bs hv hl
  by_cases k4 : kd = 4
  · subst k4; exact does_4 H R hA hg hrg hne hb1 hb2 hn1 hn2 hM hm oi oa ob va vc bs hv hl
  by_cases k5 : kd = 5
  · subst k5; exact does_5 H R hA hg hrg hne hb1 hb2 hn1 hn2 hM hm oi oa ob va vc bs hv hl
  by_cases k6 : kd = 6
  · subst k6; exact does_6 H R hA hg hrg hne hb1 hb2 hn1 hn2 hM hm oi oa ob va vc bs hv hl
  exact does_7 H R hA hg hrg hne hb1 hb2 hn1 hn2 hM hm kd k0 k1 k2 k3 k4 k5 k6 oi oa ob va vc bs hv hl

end Go.Proofs.Ytkadapjcnonbiaa
