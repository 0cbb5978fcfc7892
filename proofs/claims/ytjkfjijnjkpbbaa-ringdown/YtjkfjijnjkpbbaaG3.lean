
/-
  The program's ring, device and pool in one memory; read, letGo, leave of both sides.
-/
import Derived.Test.YtjkfjijnjkpbbaaG2
import Derived.Deep.DeepAppendRoom
import Derived.Deep.MidRow
namespace Go.Proofs.Ytjkfjijnjkpbbaa
open Go.RowKit

theorem run_more {B : Nat} {W : World} (T e : TypeId) (i : TypeInfo) (z : Value) (sz bytes : Nat) (ht : Try.prog.underlying T = some (.slice e)) (hi : Try.prog.info? e = some i) (hz : i.zero = some z) (hsz : i.size = sz) (hby : i.bytes = bytes) (hzs : z.cells.size = sz) (h0 : 0 < sz)
    {v : Value} {n : Nat} {xs : List Value} (hx : W.ownsRow B e sz v n xs) (ad : Addr) (m c : Nat) (news : List Value) (hnl : news.length = m * sz) (hnews : ∀ (j : Nat) (u : Value), news[j]? = some u → W.cell? (ad.add j) = some u) (h1 : ∀ u ∈ news, u.oneCell' = true) (hm : 0 < m) (hB : B ≤ W.heap.size) (hl : n + m ≤ maxLen) (hl2 : (n + m) * bytes ≤ 140737488355328) :
    ∃ g' c' w', (Builtin.append_ #[T, T] T #[v, .slice (some ad) m c]).run Try.prog W = .ok (.slice (some ⟨g', 0, none⟩) (n + m) c') w' ∧ w'.ownsRow B e sz (.slice (some ⟨g', 0, none⟩) (n + m) c') (n + m) (xs ++ news) ∧ But (fun k => v.ownBlock = some k) W w' ∧
      (v.ownBlock = some g' ∨ W.heap.size ≤ g') ∧ n + m ≤ c' ∧ g' < w'.heap.size := by
  obtain ⟨v', w', hrun, ho, hg, _⟩ := run_append_own (P := Try.prog) W B T T e i z sz bytes ht hi hz hsz hby hzs h0 v n xs hx ad m c news hnl hnews h1 hl hl2 hB
  have hbut : But (fun k => v.ownBlock = some k) W w' := ⟨hg.os, hg.tape, hg.output, hg.size, fun k hk hne => hg.block k hk (fun e => hne e.symm)⟩
  have ho' := ho
  obtain ⟨_, ⟨e1, hz0⟩ | ⟨k', c', cur, rfl, hk', hh, hc', _⟩⟩ := ho
  · omega
  refine ⟨k', c', w', hrun, ho', hbut, ?_, hc', (Array.getElem?_eq_some_iff.1 hh).1⟩
  have hxw := hx
  obtain ⟨hxl, ⟨rfl, rfl⟩ | ⟨g0, cp, cur0, rfl, hg0, hh0, hnc, hcm, hcs, htk⟩⟩ := hx
  · have hxs : xs = [] := List.eq_nil_of_length_eq_zero (by simpa using hxl)
    subst hxs
    obtain ⟨v2, w2, hrun2, ho2, _, _⟩ := run_append_own (P := Try.prog) W W.heap.size T T e i z sz bytes ht hi hz hsz hby hzs h0 _ 0 [] (World.ownsRow_nil W W.heap.size e sz) ad m c news hnl hnews h1 hl hl2 (Nat.le_refl _)
    rw [hrun] at hrun2
    simp only [Result.ok.injEq] at hrun2
    obtain ⟨rfl, rfl⟩ := hrun2
    obtain ⟨_, ⟨e3, _⟩ | ⟨k3, c3, cur3, e3, hk3, _⟩⟩ := ho2
    · simp at e3
    · simp only [Value.slice.injEq, Option.some.injEq, Addr.mk.injEq, and_true] at e3
      obtain ⟨rfl, _⟩ := e3
      exact .inr hk3
  · by_cases hroom : n + m ≤ cp
    · obtain ⟨w2, hrun2, _, _⟩ := run_append_own_spare (P := Try.prog) W B T T e i sz ht hi hsz g0 n cp xs hxw ad m c news hnl hnews h1 hroom
      rw [hrun] at hrun2
      simp only [Result.ok.injEq, Value.slice.injEq, Option.some.injEq, Addr.mk.injEq, and_true] at hrun2
      rw [hrun2.1.1]
      exact .inl rfl
    · have hr := run_append_grow (P := Try.prog) W T T e i z ht hi hz ⟨g0, 0, none⟩ n cp xs (by rw [hsz]; exact hxl) (hxw.cells (g := g0) rfl) ad m c news (by rw [hsz]; exact hnl) hnews (by omega) (by unfold maxLen at hl; omega) (growslice_fits (by omega) (by rw [hby]; exact hl2))
      rw [hrun] at hr
      simp only [Result.ok.injEq, Value.slice.injEq, Option.some.injEq, Addr.mk.injEq, and_true] at hr
      rw [hr.1.1]
      exact .inr (Nat.le_refl _)

/-- the blocks: device, pool, its buffers, ring -/
structure Bl where
  d : Nat
  p : Nat
  g : Nat
  r : Nat

/-- THE RING q, its device D, its pool of n buffers B, its two sides; no block of A holds one of the device's frames -/
structure Prg (A : Nat → Prop) (W : World) (q : Bl) (n : Nat) (D : Dev) (B : Nat → Buf) (s c : Sd) : Prop where
  dev : DevAt LN A W q.d D
  pool : PoolAt W q.p q.g n B
  c0 : W.cell? ⟨q.r, 0, none⟩ = some (.pointer (some ⟨q.d, 0, none⟩))
  c1 : W.cell? ⟨q.r, 1, none⟩ = some (.pointer (some ⟨q.p, 0, none⟩))
  s : SdAt W q.r 2 s
  c : SdAt W q.r 20 c
  fz : ∀ k, W.frozen? ⟨q.r, k, none⟩ = false
  ag : A q.g
  ar : A q.r
  dp : q.d ≠ q.p
  dg : q.d ≠ q.g
  dr : q.d ≠ q.r
  pr : q.p ≠ q.r
  gr : q.g ≠ q.r

/-- the blocks that calls of the ring turn -/
def PK (q : Bl) : Nat → Prop := fun g => g = q.d ∨ g = q.g ∨ g = q.r

section
variable {A : Nat → Prop} {W W' : World} {q : Bl} {n : Nat} {D D' : Dev} {B B' : Nat → Buf} {s s' c c' : Sd}
theorem Prg.rlt (h : Prg A W q n D B s c) : q.r < W.heap.size := h.s.lt
theorem Prg.but {K : Nat → Prop} (h : Prg A W q n D B s c) (hb : But K W W') (hk : ∀ g, K g → A g) (n1 : ¬ K q.d) (n2 : ¬ K q.p) (n3 : ¬ K q.g) (n4 : ¬ K q.r) : Prg A W' q n D B s c :=
  ⟨h.dev.but hb hk n1, h.pool.but hb n2 n3, (hb.cell (p := ⟨q.r, 0, none⟩) h.rlt n4).trans h.c0, (hb.cell (p := ⟨q.r, 1, none⟩) h.rlt n4).trans h.c1, h.s.but hb n4, h.c.but hb n4, fun k => (hb.frozen (p := ⟨q.r, k, none⟩) h.rlt n4).trans (h.fz k), h.ag, h.ar, h.dp, h.dg, h.dr, h.pr, h.gr⟩
theorem Prg.later (h : Prg A W q n D B s c) (hb : Below W.heap.size W W') : Prg A W' q n D B s c := h.but (K := fun _ => False) (But.of_below hb) (fun _ e => e.elim) id id id id
theorem Prg.drewN (h : Prg A W q n D B s c) (k : Nat) : Prg A (W.drewN k) q n D B s c := h.but (K := fun _ => False) ((But.refl _ _).drewN k) (fun _ e => e.elim) id id id id
theorem Prg.drew (h : Prg A W q n D B s c) : Prg A W.drew q n D B s c := h.but (K := fun _ => False) ((But.refl _ _).drew) (fun _ e => e.elim) id id id id
theorem Prg.al (h : Prg A W q n D B s c) (o : Obj) : Prg A (W.alloc o) q n D B s c := h.but (K := fun _ => False) ((But.refl _ _).alloc o) (fun _ e => e.elim) id id id id
theorem Prg.avoid {A' : Nat → Prop} (h : Prg A W q n D B s c) (hk : ∀ g, g < W.heap.size → A' g → A g) (hd : A' q.d) (hg : A' q.g) (hr : A' q.r) : Prg A' W q n D B s c :=
  ⟨h.dev.avoid hk hd, h.pool, h.c0, h.c1, h.s, h.c, h.fz, hg, hr, h.dp, h.dg, h.dr, h.pr, h.gr⟩
/-- new blocks may be written -/
theorem Prg.wide (h : Prg A W q n D B s c) : Prg (fun g => A g ∨ W.heap.size ≤ g) W q n D B s c := h.avoid (fun _ hg e => e.elim id (fun x => by omega)) (.inl h.dev.mem) (.inl h.ag) (.inl h.ar)
theorem Prg.narrow {N : Nat} (h : Prg (fun g => A g ∨ N ≤ g) W q n D B s c) (hd : A q.d) (hg : A q.g) (hr : A q.r) : Prg A W q n D B s c := h.avoid (fun _ _ e => .inl e) hd hg hr
theorem Prg.onDev (h : Prg A W q n D B s c) (hb : But (Only q.d) W W') (hd : DevAt LN A W' q.d D') : Prg A W' q n D' B s c :=
  ⟨hd, h.pool.but hb (fun e => h.dp e.symm) (fun e => h.dg e.symm), (hb.cell (p := ⟨q.r, 0, none⟩) h.rlt (fun e => h.dr e.symm)).trans h.c0, (hb.cell (p := ⟨q.r, 1, none⟩) h.rlt (fun e => h.dr e.symm)).trans h.c1, h.s.but hb (fun e => h.dr e.symm), h.c.but hb (fun e => h.dr e.symm), fun k => (hb.frozen (p := ⟨q.r, k, none⟩) h.rlt (fun e => h.dr e.symm)).trans (h.fz k), h.ag, h.ar, h.dp, h.dg, h.dr, h.pr, h.gr⟩
theorem Prg.onPool (h : Prg A W q n D B s c) (hb : But (Only q.g) W W') (hp : PoolAt W' q.p q.g n B') : Prg A W' q n D B' s c :=
  ⟨h.dev.but hb (fun _ e => e ▸ h.ag) (fun e => h.dg e), hp, (hb.cell (p := ⟨q.r, 0, none⟩) h.rlt (fun e => h.gr e.symm)).trans h.c0, (hb.cell (p := ⟨q.r, 1, none⟩) h.rlt (fun e => h.gr e.symm)).trans h.c1, h.s.but hb (fun e => h.gr e.symm), h.c.but hb (fun e => h.gr e.symm), fun k => (hb.frozen (p := ⟨q.r, k, none⟩) h.rlt (fun e => h.gr e.symm)).trans (h.fz k), h.ag, h.ar, h.dp, h.dg, h.dr, h.pr, h.gr⟩
theorem Prg.onS (h : Prg A W q n D B s c) (hf : Far q.r 2 W W') (hs : SdAt W' q.r 2 s') : Prg A W' q n D B s' c :=
  ⟨h.dev.but hf.but (fun _ e => e ▸ h.ar) (fun e => h.dr e), h.pool.but hf.but (fun e => h.pr e) (fun e => h.gr e), (hf.out 0 (by omega)).trans h.c0, (hf.out 1 (by omega)).trans h.c1, hs, h.c.keep (fun k _ => hf.out _ (by omega)), fun k => (hf.fz k).trans (h.fz k), h.ag, h.ar, h.dp, h.dg, h.dr, h.pr, h.gr⟩
theorem Prg.onC (h : Prg A W q n D B s c) (hf : Far q.r 20 W W') (hs : SdAt W' q.r 20 c') : Prg A W' q n D B s c' :=
  ⟨h.dev.but hf.but (fun _ e => e ▸ h.ar) (fun e => h.dr e), h.pool.but hf.but (fun e => h.pr e) (fun e => h.gr e), (hf.out 0 (by omega)).trans h.c0, (hf.out 1 (by omega)).trans h.c1, h.s.keep (fun k _ => hf.out _ (by omega)), hs, fun k => (hf.fz k).trans (h.fz k), h.ag, h.ar, h.dp, h.dg, h.dr, h.pr, h.gr⟩
end

section
variable {A : Nat → Prop} {w : World} {q : Bl} {n : Nat} {D : Dev} {B : Nat → Buf} {s c : Sd}

set_option maxRecDepth 100000 in
theorem read_any (h : Prg A w q n D B s c) (reg : Int) : Calls Try.prog 50 #[.pointer (some ⟨q.r, 0, none⟩), .int .i64 reg] w fun e w' => e = .returned (.int .i64 (D.rdV reg)) ∧ Prg A w' q n (D.rdD reg) B s c ∧ But (Only q.d) w w' := by
  have X := hide (Read_any h.dev reg)
  have H := hide h
  have c0 := h.c0
  clear h
  go_enter Try.func50, Try.ntmps50
  go_wp2_with fail
  refine X.out.mono ?_
  rintro _ w1 ⟨rfl, hd, hb⟩
  have H1 := hide (H.out.onDev hb hd)
  have HB := hide hb
  clear hd hb X H c0
  go_wp2
  go_ret
  exact ⟨rfl, H1.out, HB.out⟩

set_option maxRecDepth 100000 in
theorem letGo_any (h : Prg A w q n D B s c) (x : Value) (id : Int) (hm : (B id.toNat).refs < 4611686018427387904) : Calls Try.prog 62 #[.pointer (some ⟨q.r, 0, none⟩), x, .int .i64 id] w fun e w' => e = .returned (.tuple #[]) ∧ Prg A w' q n D (frB n B id) s c ∧ But (Only q.g) w w' := by
  have X := hide (Free_any h.pool id hm)
  have H := hide h
  have c1 := h.c1
  clear h
  go_enter Try.func62, Try.ntmps62
  go_wp2_with fail
  refine X.out.mono ?_
  rintro _ w1 ⟨rfl, hp, hb⟩
  have H1 := hide (H.out.onPool hb hp)
  have HB := hide hb
  clear hp hb X H c1
  go_wp2
  go_end0
  exact ⟨rfl, H1.out, HB.out⟩

/-- some buffers have a holder less -/
def frs (n : Nat) (B : Nat → Buf) (l : List Int) : Nat → Buf := l.foldl (fun B id => frB n B id) B
theorem frs_nil (n : Nat) (B : Nat → Buf) : frs n B [] = B := rfl
theorem frs_snoc (n : Nat) (B : Nat → Buf) (l : List Int) (id : Int) : frs n B (l ++ [id]) = frB n (frs n B l) id := by simp [frs]
/-- bounds of the holders -/
def Bdd (m : Nat) (B : Nat → Buf) : Prop := ∀ i, (B i).refs ≤ m
theorem Bdd.fr {m n : Nat} {B : Nat → Buf} (h : Bdd m B) (id : Int) : Bdd m (frB n B id) := by
  intro i
  unfold frB
  split
  · by_cases e : i = id.toNat
    · subst e; rw [upd_same]; have := h id.toNat; show (B id.toNat).refs - 1 ≤ m; omega
    · rw [upd_other _ _ _ _ e]; exact h i
  · exact h i
theorem Bdd.frs {m n : Nat} {B : Nat → Buf} (h : Bdd m B) (l : List Int) : Bdd m (frs n B l) := by
  induction l generalizing B with
  | nil => exact h
  | cons a l ih => exact ih (h.fr a)
theorem take_snoc {l : List Int} {k : Nat} (hk : k < l.length) : l.take (k + 1) = l.take k ++ [l[k]?.getD 0] := by
  rw [List.take_succ_eq_append_getElem hk, List.getElem?_eq_getElem hk]; rfl

theorem leaveS_any (h : Prg A w q n D B s c) (e : Nat) (he : e < 16) {m : Nat} (hm : Bdd m B) (hm2 : m < 4611686018427387904) :
    Calls Try.prog 61 #[.pointer (some ⟨q.r, 2, none⟩), .int .i64 (e : Int), .func (.func 62) #[.pointer (some ⟨q.r, 0, none⟩)] #[]] w fun x w' => x = .returned (.tuple #[]) ∧ Prg A w' q n D (frs n B (s.ids.take (s.upto e))) (s.cut (s.upto e)) c ∧ But (PK q) w w' := by
  have ld := h.dev.lt
  have lp := h.pool.blt
  have lg := h.pool.glt
  have lr := h.rlt
  refine (leave_let e he (.pointer (some ⟨q.r, 0, none⟩)) (fun k W => Prg (fun g => A g ∨ w.heap.size ≤ g) W q n D (frs n B (s.ids.take k)) s c ∧ But (Only q.g) w W) h.s h.fz ⟨by rw [List.take_zero]; exact h.wide, But.refl _ _⟩ (fun k W W' hi hb => ⟨hi.1.but hb (fun g e => .inr (by omega)) (by omega) (by omega) (by omega) (by omega), hi.2.trans' hb (fun g h1 h2 => by omega)⟩) (fun k W hk hi _ => ?_)).mono ?_
  · have hk' : k < s.ids.length := Nat.lt_of_lt_of_le hk (s.upto_le e)
    refine (letGo_any hi.1 _ _ (by have := (hm.frs (n := n) (s.ids.take k)) (s.ids[k]?.getD 0).toNat; omega)).mono ?_
    rintro x W' ⟨rfl, hp, hb⟩
    refine ⟨rfl, ⟨by rw [take_snoc hk', frs_snoc]; exact hp, hi.2.trans hb⟩, hb.mono (fun g e => ?_)⟩
    have e : g = q.g := e
    subst e
    exact ⟨h.gr, by omega, by omega⟩
  · rintro x w' ⟨rfl, w1, hi, _, hf, hs⟩
    exact ⟨rfl, (hi.1.onS hf hs).narrow h.dev.mem h.ag h.ar, (hi.2.mono (fun g e => .inr (.inl e))).trans (hf.but.mono (fun g e => .inr (.inr e)))⟩

theorem leaveC_any (h : Prg A w q n D B s c) (e : Nat) (he : e < 16) {m : Nat} (hm : Bdd m B) (hm2 : m < 4611686018427387904) :
    Calls Try.prog 61 #[.pointer (some ⟨q.r, 20, none⟩), .int .i64 (e : Int), .func (.func 62) #[.pointer (some ⟨q.r, 0, none⟩)] #[]] w fun x w' => x = .returned (.tuple #[]) ∧ Prg A w' q n D (frs n B (c.ids.take (c.upto e))) s (c.cut (c.upto e)) ∧ But (PK q) w w' := by
  have ld := h.dev.lt
  have lp := h.pool.blt
  have lg := h.pool.glt
  have lr := h.rlt
  refine (leave_let e he (.pointer (some ⟨q.r, 0, none⟩)) (fun k W => Prg (fun g => A g ∨ w.heap.size ≤ g) W q n D (frs n B (c.ids.take k)) s c ∧ But (Only q.g) w W) h.c h.fz ⟨by rw [List.take_zero]; exact h.wide, But.refl _ _⟩ (fun k W W' hi hb => ⟨hi.1.but hb (fun g e => .inr (by omega)) (by omega) (by omega) (by omega) (by omega), hi.2.trans' hb (fun g h1 h2 => by omega)⟩) (fun k W hk hi _ => ?_)).mono ?_
  · have hk' : k < c.ids.length := Nat.lt_of_lt_of_le hk (c.upto_le e)
    refine (letGo_any hi.1 _ _ (by have := (hm.frs (n := n) (c.ids.take k)) (c.ids[k]?.getD 0).toNat; omega)).mono ?_
    rintro x W' ⟨rfl, hp, hb⟩
    refine ⟨rfl, ⟨by rw [take_snoc hk', frs_snoc]; exact hp, hi.2.trans hb⟩, hb.mono (fun g e => ?_)⟩
    have e : g = q.g := e
    subst e
    exact ⟨h.gr, by omega, by omega⟩
  · rintro x w' ⟨rfl, w1, hi, _, hf, hs⟩
    exact ⟨rfl, (hi.1.onC hf hs).narrow h.dev.mem h.ag h.ar, (hi.2.mono (fun g e => .inr (.inl e))).trans (hf.but.mono (fun g e => .inr (.inr e)))⟩
end
end Go.Proofs.Ytjkfjijnjkpbbaa
