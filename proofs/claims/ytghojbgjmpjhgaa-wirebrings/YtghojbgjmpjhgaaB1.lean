
/-
  NicCarries: what holds between its rounds, and what its four calls do to it; one element appended to a row of the call's own.
  WireBrings: what holds between its rounds, as numbers.
  WireBrings: a frame comes, is doubled, is posted, as numbers.
-/
import Derived.Test.YtghojbgjmpjhgaaNOk
import Derived.Deep.DeepAppendRoom
import Derived.Test.YtghojbgjmpjhgaaX3
namespace Go.Proofs.Ytghojbgjmpjhgaa
open Go.RowKit

/-- frames S were posted at T; of them so many were taken; the next descriptor for what comes is free -/
structure Carry (D : Dev) (S : List (List Int)) (T : List Int) (taken free : Nat) : Prop where
  ok : D.Ok
  on : D.r 0 = 1 ∧ D.r 1 = 1
  len : T.length = S.length
  tk : taken ≤ S.length ∧ S.length ≤ taken + 15
  head : D.r 4 = ((taken % 16 : Nat) : Int)
  tail : D.r 5 = ((S.length % 16 : Nat) : Int)
  rx : D.r 2 = (free : Int) ∧ D.r 3 = (free : Int) ∧ free < 16
  fr : ∀ j, taken ≤ j → j < S.length → D.txf (j % 16) = S[j]?.getD [] ∧ D.posted (j % 16) = T[j]?.getD 0

theorem Carry.runs {D : Dev} {S : List (List Int)} {T : List Int} {taken free : Nat} (h : Carry D S T taken free) : D.runs = true := by
  unfold Dev.runs; simp [h.on]
theorem Carry.new : Carry (Dev.new.wrD 0 1) [] [] 0 0 := by
  refine ⟨Dev.Ok.new.wr _ _, ⟨by decide, by decide⟩, rfl, by simp, by decide, by decide, ⟨by decide, by decide, by omega⟩, fun j h1 h2 => by simp at h2⟩
theorem Carry.tick {D : Dev} {S : List (List Int)} {T : List Int} {taken free : Nat} (h : Carry D S T taken free) : Carry D.tick S T taken free :=
  ⟨h.ok.tick, h.on, h.len, h.tk, h.head, h.tail, h.rx, h.fr⟩

/-- one is sent -/
theorem Carry.send {D : Dev} {S : List (List Int)} {T : List Int} {taken free : Nat} (h : Carry D S T taken free) (hroom : S.length ≠ taken + 15) (b : List Int) (h1 : 1 ≤ b.length) (h2 : b.length ≤ 274) :
    D.stE ((S.length % 16 : Nat) : Int) b = 0 ∧ wrE 5 (((S.length + 1) % 16 : Nat) : Int) = 0 ∧ Carry ((D.stD ((S.length % 16 : Nat) : Int) b).wrD 5 (((S.length + 1) % 16 : Nat) : Int)) (S ++ [b]) (T ++ [D.clock]) taken free ∧ ((D.stD ((S.length % 16 : Nat) : Int) b).wrD 5 (((S.length + 1) % 16 : Nat) : Int)).clock = D.clock := by
  obtain ⟨n, hn⟩ : ∃ n, n = S.length := ⟨_, rfl⟩
  have htk := h.tk
  rw [← hn] at hroom htk ⊢
  have hp : ∀ m : Nat, place ((m % 16 : Nat) : Int) = true := fun m => by simp [place]; omega
  have e0 : D.stE ((n % 16 : Nat) : Int) b = 0 := by
    have ho : D.owns 4 5 ((n % 16 : Nat) : Int) = false := by unfold Dev.owns; rw [h.head, h.tail, ← hn]; simp [own]
    unfold Dev.stE
    rw [if_neg (by rw [hp, ho]; simp), if_neg (by omega), if_neg (by omega)]
  have e1 : wrE 5 (((n + 1) % 16 : Nat) : Int) = 0 := by unfold wrE; rw [if_pos (.inr ⟨.inr rfl, hp _⟩)]
  have e2 : D.stD ((n % 16 : Nat) : Int) b = { D with txf := upd D.txf (n % 16) b } := by unfold Dev.stD; rw [if_pos e0, Int.toNat_natCast]
  have e3 : ∀ D' : Dev, D'.wrD 5 (((n + 1) % 16 : Nat) : Int) = D'.post (((n + 1) % 16 : Nat) : Int) := fun D' => by
    unfold Dev.wrD; rw [if_neg (by omega), if_neg (by omega), if_neg (by omega), if_pos ⟨rfl, hp _⟩]
  refine ⟨e0, e1, ?_, ?_⟩
  · have hok := (h.ok.st ((n % 16 : Nat) : Int) b).wr 5 (((n + 1) % 16 : Nat) : Int)
    rw [e3, e2] at hok ⊢
    refine ⟨hok, ⟨h.on.1, h.on.2⟩, by simp [h.len], by simp [← hn]; omega, h.head, ?_, h.rx, fun j hj1 hj2 => ?_⟩
    · simp [Dev.post, upd, ← hn]
    · simp only [List.length_append, List.length_cons, List.length_nil, ← hn] at hj2
      simp only [Dev.post, h.tail, Int.toNat_natCast, ← hn]
      by_cases ej : j = n
      · subst ej
        have eo : own (j % 16) ((j + 1) % 16) (j % 16) = true := by simp only [own, decide_eq_true_eq]; omega
        rw [eo, upd_same]
        refine ⟨?_, ?_⟩
        · rw [hn]; simp
        · have : j = T.length := by rw [h.len]; exact hn
          rw [this]; simp
      · have eo : own (n % 16) ((n + 1) % 16) (j % 16) = false := by simp only [own, decide_eq_false_iff_not]; omega
        rw [eo, upd_other _ _ _ _ (by omega)]
        have hj : j < S.length := by omega
        have := h.fr j hj1 hj
        rw [List.getElem?_append_left hj, List.getElem?_append_left (by rw [h.len]; exact hj)]
        simpa using this
  · rw [e3, e2]; rfl

/-- one is taken, or there is none -/
theorem Carry.take {D : Dev} {S : List (List Int)} {T : List Int} {taken free : Nat} (h : Carry D S T taken free) (hlt : taken < S.length) :
    D.tkE = 0 ∧ D.tkF = S[taken]?.getD [] ∧ D.tkT = T[taken]?.getD 0 ∧ Carry D.tkD S T (taken + 1) free ∧ D.tkD.clock = D.clock := by
  have htk := h.tk
  have ne : ¬ D.r 4 = D.r 5 := by rw [h.head, h.tail]; omega
  have e0 : D.tkE = 0 := by unfold Dev.tkE; rw [if_pos h.runs, if_neg ne]
  have hf := h.fr taken (Nat.le_refl _) hlt
  refine ⟨e0, ?_, ?_, ?_, ?_⟩
  · unfold Dev.tkF; rw [if_pos e0, h.head, Int.toNat_natCast]; exact hf.1
  · unfold Dev.tkT; rw [if_pos e0, h.head, Int.toNat_natCast]; exact hf.2
  · have hok := h.ok.tk
    unfold Dev.tkD at hok ⊢
    rw [if_pos e0] at hok ⊢
    refine ⟨hok, ⟨h.on.1, h.on.2⟩, h.len, by omega, ?_, h.tail, h.rx, fun j hj1 hj2 => h.fr j (by omega) hj2⟩
    show nxt (D.r 4) = _
    rw [h.head]; unfold nxt; omega
  · unfold Dev.tkD; rw [if_pos e0]
theorem Carry.none {D : Dev} {S : List (List Int)} {T : List Int} {taken free : Nat} (h : Carry D S T taken free) (hge : ¬ taken < S.length) :
    D.tkE = 7 ∧ D.tkF = [] ∧ D.tkT = 0 ∧ D.tkD = D := by
  have htk := h.tk
  have e : D.r 4 = D.r 5 := by rw [h.head, h.tail]; omega
  have e0 : D.tkE = 7 := by unfold Dev.tkE; rw [if_pos h.runs, if_pos e]
  refine ⟨e0, ?_, ?_, ?_⟩
  · unfold Dev.tkF; rw [if_neg (by rw [e0]; omega)]
  · unfold Dev.tkT; rw [if_neg (by rw [e0]; omega)]
  · unfold Dev.tkD; rw [if_neg (by rw [e0]; omega)]

/-- one comes -/
theorem Carry.come {D : Dev} {S : List (List Int)} {T : List Int} {taken free : Nat} (h : Carry D S T taken free) (b : List Int) (h2 : b.length ≤ 274) :
    D.srE (free : Int) 274 = 0 ∧ wrE 3 (((free + 1) % 16 : Nat) : Int) = 0 ∧ ((D.srD (free : Int) 274).wrD 3 (((free + 1) % 16 : Nat) : Int)).gvE b = 0 ∧
    (((D.srD (free : Int) 274).wrD 3 (((free + 1) % 16 : Nat) : Int)).gvD b false).rxE (free : Int) = 0 ∧ (((D.srD (free : Int) 274).wrD 3 (((free + 1) % 16 : Nat) : Int)).gvD b false).rxF (free : Int) = b ∧
    Carry (((D.srD (free : Int) 274).wrD 3 (((free + 1) % 16 : Nat) : Int)).gvD b false) S T taken ((free + 1) % 16) ∧ (((D.srD (free : Int) 274).wrD 3 (((free + 1) % 16 : Nat) : Int)).gvD b false).clock = D.clock := by
  obtain ⟨r2, r3, hf⟩ := h.rx
  have hp : place (free : Int) = true := by simp [place]; omega
  have hp' : place (((free + 1) % 16 : Nat) : Int) = true := by simp [place]; omega
  have e0 : D.srE (free : Int) 274 = 0 := by
    unfold Dev.srE Dev.owns
    rw [hp, r2, r3]
    simp [own]
  have e1 : wrE 3 (((free + 1) % 16 : Nat) : Int) = 0 := by unfold wrE; rw [if_pos (.inr ⟨.inl rfl, hp'⟩)]
  have e2 : D.srD (free : Int) 274 = { D with room := upd D.room free 274, held := upd D.held free false, rxf := upd D.rxf free [], bad := upd D.bad free false } := by unfold Dev.srD; rw [if_pos e0, Int.toNat_natCast]
  have e3 : ∀ D' : Dev, D'.wrD 3 (((free + 1) % 16 : Nat) : Int) = { D' with r := upd D'.r 3 (((free + 1) % 16 : Nat) : Int) } := fun D' => by
    unfold Dev.wrD; rw [if_neg (by omega), if_neg (by omega), if_pos ⟨rfl, hp'⟩]
  have ok2 := (h.ok.sr (free : Int) 274).wr 3 (((free + 1) % 16 : Nat) : Int)
  rw [e3, e2] at ok2 ⊢
  obtain ⟨D2, hD2⟩ : ∃ D2, D2 = ({ D with r := upd D.r 3 (((free + 1) % 16 : Nat) : Int), room := upd D.room free 274, held := upd D.held free false, rxf := upd D.rxf free [], bad := upd D.bad free false } : Dev) := ⟨_, rfl⟩
  rw [← hD2] at ok2 ⊢
  have run2 : D2.runs = true := by rw [hD2]; unfold Dev.runs; simp [upd, h.on]
  have r22 : D2.r 2 = (free : Int) := by rw [hD2]; simp [upd, r2]
  have r23 : D2.r 3 = (((free + 1) % 16 : Nat) : Int) := by rw [hD2]; simp [upd]
  have rm2 : D2.room free = 274 := by rw [hD2]; simp [upd]
  have g0 : D2.gvE b = 0 := by
    unfold Dev.gvE; rw [if_pos run2, if_neg (by rw [r22, r23]; omega), if_neg (by rw [r22, Int.toNat_natCast, rm2]; omega)]
  have g1 : D2.gvD b false = D2.fill b false := by unfold Dev.gvD; rw [if_neg (by rw [g0]; omega), if_pos g0]
  have ok3 := ok2.gv b false
  rw [g1] at ok3 ⊢
  have x0 : (D2.fill b false).rxE (free : Int) = 0 := by
    unfold Dev.rxE; rw [if_pos hp, Int.toNat_natCast]
    simp only [Dev.fill, r22, Int.toNat_natCast, upd_same, if_true]
  refine ⟨e0, e1, g0, x0, ?_, ?_, ?_⟩
  · unfold Dev.rxF; rw [if_pos x0]; simp only [Dev.fill, r22, Int.toNat_natCast, upd_same]
  · refine ⟨ok3, ?_, h.len, h.tk, ?_, ?_, ?_, fun j hj1 hj2 => ?_⟩
    · rw [hD2]; simp [Dev.fill, upd, h.on]
    · rw [hD2]; simp [Dev.fill, upd, h.head]
    · rw [hD2]; simp [Dev.fill, upd, h.tail]
    · refine ⟨?_, ?_, by omega⟩
      · have : (D2.fill b false).r 2 = nxt (D2.r 2) := by simp [Dev.fill, upd]
        rw [this, r22]; unfold nxt; omega
      · have : (D2.fill b false).r 3 = D2.r 3 := by simp [Dev.fill, upd]
        rw [this, r23]
    · have := h.fr j hj1 hj2
      rw [hD2]; exact this
  · rw [hD2]; rfl

/-- one element appended to a row of the call's own: its block is the old one, or new -/
theorem run_one {B : Nat} {W : World} (T e : TypeId) (i : TypeInfo) (z : Value) (bytes : Nat) (ht : Try.prog.underlying T = some (.slice e)) (hi : Try.prog.info? e = some i) (hz : i.zero = some z) (hsz : i.size = 1) (hby : i.bytes = bytes) (hzs : z.cells.size = 1)
    {a : Option Addr} {n c : Nat} {xs : List Value} (hx : W.ownsRow B e 1 (.slice a n c) n xs) (g : Nat) (u : Value) (hu : W.cell? ⟨g, 0, none⟩ = some u) (h1 : u.oneCell' = true) (hB : B ≤ W.heap.size) (hl : n + 1 ≤ maxLen) (hl2 : (n + 1) * bytes ≤ 140737488355328) :
    ∃ a' c' w', (Builtin.append_ #[T, T] T #[.slice a n c, .slice (some ⟨g, 0, none⟩) 1 1]).run Try.prog W = .ok (.slice a' (n + 1) c') w' ∧ w'.ownsRow B e 1 (.slice a' (n + 1) c') (n + 1) (xs ++ [u]) ∧ But (fun k => a = some ⟨k, 0, none⟩) W w' ∧
      (∀ k, a' = some ⟨k, 0, none⟩ → a = some ⟨k, 0, none⟩ ∨ W.heap.size ≤ k) ∧ n + 1 ≤ c' := by
  have hnews : ∀ (j : Nat) (v : Value), [u][j]? = some v → W.cell? ((⟨g, 0, none⟩ : Addr).add j) = some v := fun j v hv => by
    have : j = 0 := by have := (List.getElem?_eq_some_iff.1 hv).1; simp at this; omega
    subst this
    simp at hv
    rw [← hv, Addr.add_lit]; exact hu
  have h1' : ∀ v ∈ [u], v.oneCell' = true := fun v hv => by rw [List.mem_singleton] at hv; rw [hv]; exact h1
  obtain ⟨v', w', hrun, ho, hg, _⟩ := run_append_own (P := Try.prog) W B T T e i z 1 bytes ht hi hz hsz hby hzs (by decide) _ n xs hx ⟨g, 0, none⟩ 1 1 [u] (by simp) hnews h1' hl hl2 hB
  have hbut : But (fun k => a = some ⟨k, 0, none⟩) W w' := ⟨hg.os, hg.tape, hg.output, hg.size, fun k hk hne => hg.block k hk (fun e => hne (by
    obtain ⟨_, ⟨e1, _⟩ | ⟨g0, cp, cur, e1, _⟩⟩ := hx
    · simp only [Value.slice.injEq] at e1
      obtain ⟨rfl, _, _⟩ := e1
      simp [Value.ownBlock] at e
    · simp only [Value.slice.injEq] at e1
      obtain ⟨rfl, _, _⟩ := e1
      simp [Value.ownBlock] at e
      rw [e]))⟩
  have ho' := ho
  obtain ⟨_, ⟨e1, h0⟩ | ⟨k', c', cur, rfl, hk', hh, hc', _⟩⟩ := ho
  · omega
  refine ⟨_, _, _, hrun, ho', hbut, fun k ek => ?_, hc'⟩
  simp only [Option.some.injEq, Addr.mk.injEq, and_true] at ek
  subst ek
  have hxw := hx
  obtain ⟨hxl, ⟨e1, hn0⟩ | ⟨g0, cp, cur0, e1, hg0, hh0, hnc, hcm, hcs, htk⟩⟩ := hx
  · simp only [Value.slice.injEq] at e1
    obtain ⟨rfl, rfl, rfl⟩ := e1
    have hxs : xs = [] := List.eq_nil_of_length_eq_zero (by simpa using hxl)
    subst hxs
    obtain ⟨v2, w2, hrun2, ho2, _, _⟩ := run_append_own (P := Try.prog) W W.heap.size T T e i z 1 bytes ht hi hz hsz hby hzs (by decide) _ 0 [] (World.ownsRow_nil W W.heap.size e 1) ⟨g, 0, none⟩ 1 1 [u] (by simp) hnews h1' hl hl2 (Nat.le_refl _)
    rw [hrun] at hrun2
    simp only [Result.ok.injEq] at hrun2
    obtain ⟨rfl, rfl⟩ := hrun2
    obtain ⟨_, ⟨e3, _⟩ | ⟨k3, c3, cur3, e3, hk3, _⟩⟩ := ho2
    · simp at e3
    · simp only [Value.slice.injEq, Option.some.injEq, Addr.mk.injEq, and_true] at e3
      obtain ⟨rfl, _⟩ := e3
      exact .inr hk3
  · simp only [Value.slice.injEq] at e1
    obtain ⟨rfl, _, rfl⟩ := e1
    by_cases hroom : n + 1 ≤ c
    · obtain ⟨w2, hrun2, _, _⟩ := run_append_own_spare (P := Try.prog) W B T T e i 1 ht hi hsz g0 n c xs hxw ⟨g, 0, none⟩ 1 1 [u] (by simp) hnews h1' hroom
      rw [hrun] at hrun2
      simp only [Result.ok.injEq, Value.slice.injEq, Option.some.injEq, Addr.mk.injEq, and_true] at hrun2
      rw [hrun2.1.1]
      exact .inl rfl
    · have hr := run_append_grow (P := Try.prog) W T T e i z ht hi hz ⟨g0, 0, none⟩ n c xs (by rw [hsz]; exact hxl) (hxw.cells (g := g0) rfl) ⟨g, 0, none⟩ 1 1 [u] (by rw [hsz]; simp) hnews (by omega) (by unfold maxLen at hl; omega) (growslice_fits (by omega) (by rw [hby]; exact hl2))
      rw [hrun] at hr
      simp only [Result.ok.injEq, Value.slice.injEq, Option.some.injEq, Addr.mk.injEq, and_true] at hr
      rw [hr.1.1]
      exact .inr (Nat.le_refl _)



/-- the number that a frame says -/
def numN : List Int → Nat
  | a :: b :: _ => (256 * a + b).toNat
  | _ => 0
/-- the frame n, posted at the device i at the tick t -/
def Known (BS : List (List Int)) (PT : List Int) (i : Nat) (bs : List Int) (t : Int) : Prop :=
  ∃ n : Nat, BS[n]? = some bs ∧ PT[n]? = some t ∧ ∃ r, bs = ((n / 256 : Nat) : Int) :: ((n % 256 : Nat) : Int) :: (i : Int) :: r
theorem numN_of {n : Nat} {i : Int} {r : List Int} : numN (((n / 256 : Nat) : Int) :: ((n % 256 : Nat) : Int) :: i :: r) = n := by
  show (256 * ((n / 256 : Nat) : Int) + ((n % 256 : Nat) : Int)).toNat = n
  omega
theorem Known.num {BS : List (List Int)} {PT : List Int} {i : Nat} {bs : List Int} {t : Int} (h : Known BS PT i bs t) : BS[numN bs]? = some bs ∧ PT[numN bs]? = some t := by
  obtain ⟨n, h1, h2, r, rfl⟩ := h
  rw [numN_of]; exact ⟨h1, h2⟩
theorem Known.more {BS : List (List Int)} {PT : List Int} {i : Nat} {bs : List Int} {t : Int} (h : Known BS PT i bs t) (b : List Int) (c : Int) : Known (BS ++ [b]) (PT ++ [c]) i bs t := by
  obtain ⟨n, h1, h2, r⟩ := h
  refine ⟨n, ?_, ?_, r⟩
  · rw [List.getElem?_append_left (List.getElem?_eq_some_iff.1 h1).1]; exact h1
  · rw [List.getElem?_append_left (List.getElem?_eq_some_iff.1 h2).1]; exact h2

def cW (n : Nat) (l : List Frm) : Nat := l.countP (fun f => !f.bad && numN f.bs == n)
def cQ (n : Nat) (q : List (List Int)) : Nat := q.countP (fun b => numN b == n)
def gg (n : Nat) (l : Nat → List Frm) (S : Nat → List (List Int)) (tk : Nat → Nat) (i : Nat) : Nat := cW n (l i) + cQ n ((S i).drop (tk i))

/-- WHAT HOLDS BETWEEN THE ROUNDS -/
structure Brg (ck : Int) (l : Nat → List Frm) (D : Nat → Dev) (F : Nat → Nat) (S : Nat → List (List Int)) (TT : Nat → List Int) (tk : Nat → Nat) (BS : List (List Int)) (PT LF : List Int) (m : Nat) : Prop where
  lenP : PT.length = BS.length
  lenL : LF.length = BS.length
  car : ∀ i, i < 2 → Carry (D i) (S i) (TT i) (tk i) (F i)
  pen : ∀ i, i < 2 → ∀ j, tk i ≤ j → j < (S i).length → Known BS PT i ((S i)[j]?.getD []) ((TT i)[j]?.getD 0)
  fly : ∀ i, i < 2 → ∀ f ∈ l i, f.bad = false → Known BS PT i f.bs f.tick
  yng : ∀ i, i < 2 → ∀ f ∈ l i, old ck f.tick = false
  cnt : ∀ n, n < BS.length → ((gg n l S tk 0 + gg n l S tk 1 : Nat) : Int) ≤ LF[n]?.getD 0
  lfb : ∀ x ∈ LF, x ≤ (m : Int) + 1

section
variable {ck : Int} {l : Nat → List Frm} {D : Nat → Dev} {F : Nat → Nat} {S : Nat → List (List Int)} {TT : Nat → List Int} {tk : Nat → Nat} {BS : List (List Int)} {PT LF : List Int} {m : Nat}
theorem Brg.more (h : Brg ck l D F S TT tk BS PT LF m) : Brg ck l D F S TT tk BS PT LF (m + 1) := ⟨h.lenP, h.lenL, h.car, h.pen, h.fly, h.yng, h.cnt, fun x hx => by have := h.lfb x hx; omega⟩
/-- frames on their way were lost, or turned bad -/
theorem Brg.list (h : Brg ck l D F S TT tk BS PT LF m) (i : Nat) {f' : List Frm} (hf : i < 2 → ∀ f ∈ f', f.bad = false → f ∈ l i) (hy : i < 2 → ∀ f ∈ f', old ck f.tick = false) (hc : i < 2 → ∀ n, cW n f' ≤ cW n (l i)) : Brg ck (upd l i f') D F S TT tk BS PT LF m := by
  refine ⟨h.lenP, h.lenL, h.car, h.pen, fun j hj => ?_, fun j hj => ?_, fun n hn => ?_, h.lfb⟩
  · by_cases e : j = i
    · subst e; rw [upd_same]; exact fun f hm hb => h.fly j hj f (hf hj f hm hb) hb
    · rw [upd_other _ _ _ _ e]; exact h.fly j hj
  · by_cases e : j = i
    · subst e; rw [upd_same]; exact hy hj
    · rw [upd_other _ _ _ _ e]; exact h.yng j hj
  · have key : ∀ j, j < 2 → gg n (upd l i f') S tk j ≤ gg n l S tk j := fun j hj => by
      unfold gg
      by_cases e : j = i
      · subst e; rw [upd_same]; have := hc hj n; omega
      · rw [upd_other _ _ _ _ e]; exact Nat.le_refl _
    have h0 := key 0 (by omega)
    have h1 := key 1 (by omega)
    have := h.cnt n hn
    omega
theorem cW_sub {n : Nat} {a b : List Frm} (h : a.Sublist b) : cW n a ≤ cW n b := h.countP_le
theorem Brg.drop (h : Brg ck l D F S TT tk BS PT LF m) (d k : Int) : Brg ck (drA l d k) D F S TT tk BS PT LF (m + 1) := by
  unfold drA; split
  · rename_i hc
    obtain ⟨i, rfl, hi, j, rfl, hj⟩ := thE_dir hc
    rw [Int.toNat_natCast, Int.toNat_natCast]
    exact (h.list i (fun _ f hf _ => mem_erase hf) (fun _ f hf => h.yng i hi f (mem_erase hf)) (fun _ n => cW_sub (List.eraseIdx_sublist ..))).more
  · exact h.more
theorem cW_erase (n : Nat) : ∀ (l : List Frm) (j : Nat) (f : Frm), l[j]? = some f → cW n l = cW n (l.eraseIdx j) + cW n [f] := by
  intro l
  induction l with
  | nil => intro j f h; simp at h
  | cons x l ih =>
    intro j f h
    cases j with
    | zero =>
      simp only [List.getElem?_cons_zero, Option.some.injEq] at h
      subst h
      simp only [List.eraseIdx_zero, List.tail_cons]
      unfold cW; rw [List.countP_cons, List.countP_cons, List.countP_nil]; omega
    | succ j =>
      simp only [List.getElem?_cons_succ] at h
      have := ih j f h
      rw [List.eraseIdx_cons_succ]
      unfold cW at this ⊢
      rw [List.countP_cons, List.countP_cons, this]; omega
theorem cW_moved (n : Nat) (l : List Frm) (j u : Nat) (f : Frm) (h : l[j]? = some f) : cW n (moved l j u f) = cW n l := by
  rw [cW_erase n l j f h]
  unfold moved
  have e : cW n (l.eraseIdx j) = cW n ((l.eraseIdx j).take u) + cW n ((l.eraseIdx j).drop u) := by
    unfold cW; rw [← List.countP_append, List.take_append_drop]
  rw [e]
  unfold cW
  rw [List.countP_append, List.countP_append]; omega
theorem Brg.move (h : Brg ck l D F S TT tk BS PT LF m) (d k t : Int) : Brg ck (mvA l d k t) D F S TT tk BS PT LF (m + 1) := by
  unfold mvA; split
  · rename_i hc
    obtain ⟨i, rfl, hi, j, u, rfl, hj, rfl, hu⟩ := mvE_dir hc
    rw [Int.toNat_natCast, Int.toNat_natCast, Int.toNat_natCast]
    have hm := getD_mem hj (⟨[], false, 0⟩ : Frm)
    refine (h.list i (fun _ f hf _ => ?_) (fun _ f hf => ?_) (fun _ n => ?_)).more
    · rcases moved_mem hf with rfl | hf
      · exact hm
      · exact hf
    · rcases moved_mem hf with rfl | hf
      · exact h.yng i hi _ hm
      · exact h.yng i hi f hf
    · rw [cW_moved n (l i) j u _ (by rw [List.getElem?_eq_getElem hj]; rfl)]
      exact Nat.le_refl _
  · exact h.more
theorem cW_set (n : Nat) : ∀ (l : List Frm) (j : Nat) (f : Frm), f.bad = true → cW n (l.set j f) ≤ cW n l := by
  intro l
  induction l with
  | nil => intro j f _; simp
  | cons x l ih =>
    intro j f hb
    cases j with
    | zero => unfold cW; rw [List.set_cons_zero, List.countP_cons, List.countP_cons]; simp [hb]
    | succ j => have := ih j f hb; unfold cW at this ⊢; rw [List.set_cons_succ, List.countP_cons, List.countP_cons]; omega
theorem Brg.damage (h : Brg ck l D F S TT tk BS PT LF m) (d k t : Int) : Brg ck (dmA l d k t) D F S TT tk BS PT LF (m + 1) := by
  unfold dmA; split
  · rename_i hc
    obtain ⟨i, rfl, hi, j, u, rfl, hj, rfl, hu⟩ := dmE_dir hc
    rw [Int.toNat_natCast, Int.toNat_natCast, Int.toNat_natCast]
    refine (h.list i (fun _ f hf hb => ?_) (fun _ f hf => ?_) (fun _ n => cW_set n _ _ _ rfl)).more
    · rcases mem_set' hf with rfl | hf
      · cases hb
      · exact hf
    · rcases mem_set' hf with rfl | hf
      · have := h.yng i hi _ (getD_mem hj ⟨[], false, 0⟩)
        exact this
      · exact h.yng i hi f hf
  · exact h.more

theorem cQ_drop (n : Nat) (q : List (List Int)) (a : Nat) (h : a < q.length) : cQ n (q.drop a) = cQ n (q.drop (a + 1)) + cQ n [q[a]?.getD []] := by
  rw [List.drop_eq_getElem_cons h, List.getElem?_eq_getElem h]
  unfold cQ
  simp only [Option.getD_some, List.countP_cons, List.countP_nil]; omega
theorem cQ_le (n : Nat) (q : List (List Int)) {a b : Nat} (h : a ≤ b) : cQ n (q.drop b) ≤ cQ n (q.drop a) := by
  unfold cQ
  refine List.Sublist.countP_le ?_
  have : q.drop b = (q.drop a).drop (b - a) := by rw [List.drop_drop]; congr 1; omega
  rw [this]; exact List.drop_sublist _ _
/-- a device has gone on -/
theorem Brg.acts (h : Brg ck l D F S TT tk BS PT LF m) (i : Nat) (a : Nat) {D' : Dev} (ha : i < 2 → tk i ≤ a) (hc : i < 2 → Carry D' (S i) (TT i) a (F i)) : Brg ck l (upd D i D') F S TT (upd tk i a) BS PT LF m := by
  refine ⟨h.lenP, h.lenL, fun j hj => ?_, fun j hj => ?_, h.fly, h.yng, fun n hn => ?_, h.lfb⟩
  · by_cases e : j = i
    · subst e; rw [upd_same, upd_same]; exact hc hj
    · rw [upd_other _ _ _ _ e, upd_other _ _ _ _ e]; exact h.car j hj
  · by_cases e : j = i
    · subst e; rw [upd_same]; exact fun k h1 h2 => h.pen j hj k (Nat.le_trans (ha hj) h1) h2
    · rw [upd_other _ _ _ _ e]; exact h.pen j hj
  · have key : ∀ j, j < 2 → gg n l S (upd tk i a) j ≤ gg n l S tk j := fun j hj => by
      unfold gg
      by_cases e : j = i
      · subst e; rw [upd_same]; have := cQ_le n (S j) (ha hj); omega
      · rw [upd_other _ _ _ _ e]; exact Nat.le_refl _
    have h0 := key 0 (by omega)
    have h1 := key 1 (by omega)
    have := h.cnt n hn
    omega
theorem Brg.pull (h : Brg ck l D F S TT tk BS PT LF m) (d : Int) : ∃ tk', Brg ck (plA l D ck d) (plD D d) F S TT tk' BS PT LF (m + 1) := by
  by_cases hd : isDir d = true
  · obtain ⟨i, rfl, hi⟩ := isDir_nat hd
    have hpD : plD D (i : Int) = upd D i (D i).tkD := by unfold plD; rw [if_pos hd, Int.toNat_natCast]
    rw [hpD]
    by_cases hlt : tk i < (S i).length
    · obtain ⟨e0, eF, eT, hc, _⟩ := (h.car i hi).take hlt
      have h1 := h.acts i (tk i + 1) (fun _ => Nat.le_succ _) (fun _ => hc)
      by_cases ho : old ck (D i).tkT = true
      · rw [plA_old (by rw [Int.toNat_natCast]; exact ho)]
        exact ⟨_, h1.more⟩
      · have ho : old ck (D i).tkT = false := by simpa using ho
        rw [plA_new hi e0 ho]
        have kn := h.pen i hi (tk i) (Nat.le_refl _) hlt
        rw [← eF, ← eT] at kn
        refine ⟨upd tk i (tk i + 1), h.lenP, h.lenL, h1.car, h1.pen, fun j hj => ?_, fun j hj => ?_, fun n hn => ?_, h.more.lfb⟩
        · by_cases e : j = i
          · subst e; rw [upd_same]
            intro f hf hb
            rcases List.mem_append.1 hf with hf | hf
            · exact h.fly j hj f hf hb
            · rw [List.mem_singleton.1 hf]; exact kn
          · rw [upd_other _ _ _ _ e]; exact h.fly j hj
        · by_cases e : j = i
          · subst e; rw [upd_same]
            intro f hf
            rcases List.mem_append.1 hf with hf | hf
            · exact h.yng j hj f hf
            · rw [List.mem_singleton.1 hf]; exact ho
          · rw [upd_other _ _ _ _ e]; exact h.yng j hj
        · have key : ∀ j, j < 2 → gg n (upd l i (l i ++ [⟨(D i).tkF, false, (D i).tkT⟩])) S (upd tk i (tk i + 1)) j = gg n l S tk j := fun j hj => by
            unfold gg
            by_cases e : j = i
            · subst e; rw [upd_same, upd_same, cQ_drop n (S j) (tk j) hlt, ← eF]
              unfold cW cQ
              rw [List.countP_append]
              simp only [List.countP_cons, List.countP_nil, Bool.not_false, Bool.true_and]
              omega
            · rw [upd_other _ _ _ _ e, upd_other _ _ _ _ e]
          rw [key 0 (by omega), key 1 (by omega)]
          exact h.cnt n hn
    · obtain ⟨e0, _, _, eD⟩ := (h.car i hi).none hlt
      rw [plA_no (by rw [Int.toNat_natCast, e0]; omega), eD, upd_self]
      exact ⟨_, h.more⟩
  · have hd : isDir d = false := by simpa using hd
    rw [plA_dir hd]
    unfold plD
    rw [if_neg (by rw [hd]; simp)]
    exact ⟨_, h.more⟩
theorem Carry.lg (c : Int) (n : Nat) : ∀ {D : Dev} {S : List (List Int)} {T : List Int} {a f : Nat}, Carry D S T a f → ∃ a', a ≤ a' ∧ Carry (lg n c D) S T a' f := by
  induction n with
  | zero => intro D S T a f h; exact ⟨a, Nat.le_refl _, h⟩
  | succ n ih =>
    intro D S T a f h
    by_cases hc : D.olB = true ∧ old c D.olT = true ∧ D.tkE = 0
    · rw [lg_go hc]
      by_cases hlt : a < S.length
      · obtain ⟨a', h1, h2⟩ := ih (h.take hlt).2.2.2.1
        exact ⟨a', by omega, h2⟩
      · have := (h.none hlt).1; omega
    · rw [lg_stay hc]; exact ⟨a, Nat.le_refl _, h⟩
theorem Brg.tick (h : Brg ck l D F S TT tk BS PT LF m) : ∃ tk', Brg (ck + 1) (tiA l (ck + 1)) (tiD D (ck + 1)) F S TT tk' BS PT LF (m + 1) := by
  obtain ⟨a0, l0, c0⟩ := Carry.lg (ck + 1) 16 (h.car 0 (by omega)).tick
  obtain ⟨a1, l1, c1⟩ := Carry.lg (ck + 1) 16 (h.car 1 (by omega)).tick
  have h1 := (h.acts 0 a0 (fun _ => l0) (fun _ => c0)).acts 1 a1 (fun _ => by rw [upd_other _ _ _ _ (by omega)]; exact l1) (fun _ => c1)
  have h2 : Brg ck (tiA l (ck + 1)) (tiD D (ck + 1)) F S TT (upd (upd tk 0 a0) 1 a1) BS PT LF m := by
    unfold tiA
    have flt : ∀ (a : List Frm) (f : Frm), f ∈ a.filter (fun f => !old (ck + 1) f.tick) → f ∈ a := fun a f hf => (List.mem_filter.1 hf).1
    have g1 := h1.list 0 (f' := (l 0).filter (fun f => !old (ck + 1) f.tick)) (fun _ f hf _ => flt _ f hf) (fun hi f hf => h.yng 0 hi f (flt _ f hf)) (fun _ n => cW_sub List.filter_sublist)
    exact g1.list 1 (f' := (l 1).filter (fun f => !old (ck + 1) f.tick)) (fun _ f hf _ => by rw [upd_other _ _ _ _ (by omega)]; exact flt _ f hf) (fun hi f hf => h.yng 1 hi f (flt _ f hf)) (fun _ n => by rw [upd_other _ _ _ _ (by omega)]; exact cW_sub List.filter_sublist)
  refine ⟨_, h2.lenP, h2.lenL, h2.car, h2.pen, h2.fly, fun i hi f hf => ?_, h2.cnt, h2.more.lfb⟩
  have : i = 0 ∨ i = 1 := by omega
  unfold tiA at hf
  rcases this with rfl | rfl
  · rw [upd_other _ _ _ _ (by omega), upd_same] at hf
    have := (List.mem_filter.1 hf).2; simpa using this
  · rw [upd_same] at hf
    have := (List.mem_filter.1 hf).2; simpa using this
end


/-- one comes, good or bad -/
theorem Carry.comeX {D : Dev} {S : List (List Int)} {T : List Int} {taken free : Nat} (h : Carry D S T taken free) (b : List Int) (x : Bool) (h2 : b.length ≤ 274) :
    D.srE (free : Int) 274 = 0 ∧ wrE 3 (((free + 1) % 16 : Nat) : Int) = 0 ∧ ((D.srD (free : Int) 274).wrD 3 (((free + 1) % 16 : Nat) : Int)).gvE b = 0 ∧
    (((D.srD (free : Int) 274).wrD 3 (((free + 1) % 16 : Nat) : Int)).gvD b x).rxE (free : Int) = 0 ∧ (((D.srD (free : Int) 274).wrD 3 (((free + 1) % 16 : Nat) : Int)).gvD b x).rxF (free : Int) = b ∧ (((D.srD (free : Int) 274).wrD 3 (((free + 1) % 16 : Nat) : Int)).gvD b x).rxB (free : Int) = x ∧
    Carry (((D.srD (free : Int) 274).wrD 3 (((free + 1) % 16 : Nat) : Int)).gvD b x) S T taken ((free + 1) % 16) ∧ (((D.srD (free : Int) 274).wrD 3 (((free + 1) % 16 : Nat) : Int)).gvD b x).clock = D.clock := by
  obtain ⟨r2, r3, hf⟩ := h.rx
  have hp : place (free : Int) = true := by simp [place]; omega
  have hp' : place (((free + 1) % 16 : Nat) : Int) = true := by simp [place]; omega
  have e0 : D.srE (free : Int) 274 = 0 := by
    unfold Dev.srE Dev.owns
    rw [hp, r2, r3]
    simp [own]
  have e1 : wrE 3 (((free + 1) % 16 : Nat) : Int) = 0 := by unfold wrE; rw [if_pos (.inr ⟨.inl rfl, hp'⟩)]
  have e2 : D.srD (free : Int) 274 = { D with room := upd D.room free 274, held := upd D.held free false, rxf := upd D.rxf free [], bad := upd D.bad free false } := by unfold Dev.srD; rw [if_pos e0, Int.toNat_natCast]
  have e3 : ∀ D' : Dev, D'.wrD 3 (((free + 1) % 16 : Nat) : Int) = { D' with r := upd D'.r 3 (((free + 1) % 16 : Nat) : Int) } := fun D' => by
    unfold Dev.wrD; rw [if_neg (by omega), if_neg (by omega), if_pos ⟨rfl, hp'⟩]
  have ok2 := (h.ok.sr (free : Int) 274).wr 3 (((free + 1) % 16 : Nat) : Int)
  rw [e3, e2] at ok2 ⊢
  obtain ⟨D2, hD2⟩ : ∃ D2, D2 = ({ D with r := upd D.r 3 (((free + 1) % 16 : Nat) : Int), room := upd D.room free 274, held := upd D.held free false, rxf := upd D.rxf free [], bad := upd D.bad free false } : Dev) := ⟨_, rfl⟩
  rw [← hD2] at ok2 ⊢
  have run2 : D2.runs = true := by rw [hD2]; unfold Dev.runs; simp [upd, h.on]
  have r22 : D2.r 2 = (free : Int) := by rw [hD2]; simp [upd, r2]
  have r23 : D2.r 3 = (((free + 1) % 16 : Nat) : Int) := by rw [hD2]; simp [upd]
  have rm2 : D2.room free = 274 := by rw [hD2]; simp [upd]
  have g0 : D2.gvE b = 0 := by
    unfold Dev.gvE; rw [if_pos run2, if_neg (by rw [r22, r23]; omega), if_neg (by rw [r22, Int.toNat_natCast, rm2]; omega)]
  have g1 : D2.gvD b x = D2.fill b x := by unfold Dev.gvD; rw [if_neg (by rw [g0]; omega), if_pos g0]
  have ok3 := ok2.gv b x
  rw [g1] at ok3 ⊢
  have x0 : (D2.fill b x).rxE (free : Int) = 0 := by
    unfold Dev.rxE; rw [if_pos hp, Int.toNat_natCast]
    simp only [Dev.fill, r22, Int.toNat_natCast, upd_same, if_true]
  refine ⟨e0, e1, g0, x0, ?_, ?_, ?_, ?_⟩
  · unfold Dev.rxF; rw [if_pos x0]; simp only [Dev.fill, r22, Int.toNat_natCast, upd_same]
  · unfold Dev.rxB; rw [if_pos x0]; simp only [Dev.fill, r22, Int.toNat_natCast, upd_same]
  · refine ⟨ok3, ?_, h.len, h.tk, ?_, ?_, ?_, fun j hj1 hj2 => ?_⟩
    · rw [hD2]; simp [Dev.fill, upd, h.on]
    · rw [hD2]; simp [Dev.fill, upd, h.head]
    · rw [hD2]; simp [Dev.fill, upd, h.tail]
    · refine ⟨?_, ?_, by omega⟩
      · have : (D2.fill b x).r 2 = nxt (D2.r 2) := by simp [Dev.fill, upd]
        rw [this, r22]; unfold nxt; omega
      · have : (D2.fill b x).r 3 = D2.r 3 := by simp [Dev.fill, upd]
        rw [this, r23]
    · have := h.fr j hj1 hj2
      rw [hD2]; exact this
  · rw [hD2]; rfl


/-- nothing came: the descriptor is taken back -/
theorem Carry.back {D : Dev} {S : List (List Int)} {T : List Int} {taken free : Nat} (h : Carry D S T taken free) : Carry (((D.srD (free : Int) 274).wrD 3 (((free + 1) % 16 : Nat) : Int)).wrD 3 (free : Int)) S T taken free := by
  obtain ⟨r2, r3, hf⟩ := h.rx
  have hp : ∀ a : Nat, a < 16 → place (a : Int) = true := fun a ha => by simp [place]; omega
  have e3 : ∀ (D' : Dev) (a : Nat), a < 16 → D'.wrD 3 (a : Int) = { D' with r := upd D'.r 3 (a : Int) } := fun D' a ha => by
    unfold Dev.wrD; rw [if_neg (by omega), if_neg (by omega), if_pos ⟨rfl, hp a ha⟩]
  have ok2 := ((h.ok.sr (free : Int) 274).wr 3 (((free + 1) % 16 : Nat) : Int)).wr 3 (free : Int)
  rw [e3 _ free hf, e3 _ ((free + 1) % 16) (by omega)] at ok2 ⊢
  have e2 : ∀ r', ({ D.srD (free : Int) 274 with r := r' } : Dev).txf = D.txf ∧ ({ D.srD (free : Int) 274 with r := r' } : Dev).posted = D.posted ∧ (D.srD (free : Int) 274).r = D.r := fun r' => by unfold Dev.srD; split <;> exact ⟨rfl, rfl, rfl⟩
  have er := (e2 D.r).2.2
  refine ⟨ok2, ?_, h.len, h.tk, ?_, ?_, ⟨?_, ?_, hf⟩, fun j hj1 hj2 => ?_⟩
  · simp [upd, er, h.on]
  · simp [upd, er, h.head]
  · simp [upd, er, h.tail]
  · simp [upd, er, r2]
  · simp [upd]
  · have := h.fr j hj1 hj2
    rw [← (e2 D.r).1, ← (e2 D.r).2.1] at this
    exact this

/-- one is posted: the ring has room, or it goes round and is empty -/
theorem Carry.post {D : Dev} {S : List (List Int)} {T : List Int} {taken free : Nat} (h : Carry D S T taken free) (b : List Int) (h1 : 1 ≤ b.length) (h2 : b.length ≤ 274) :
    D.stE ((S.length % 16 : Nat) : Int) b = 0 ∧ ∃ a, taken ≤ a ∧ Carry ((D.stD ((S.length % 16 : Nat) : Int) b).wrD 5 (((S.length + 1) % 16 : Nat) : Int)) (S ++ [b]) (T ++ [D.clock]) a free := by
  by_cases hroom : S.length = taken + 15
  · obtain ⟨n, hn⟩ : ∃ n, n = S.length := ⟨_, rfl⟩
    rw [← hn] at hroom ⊢
    have hp : ∀ m : Nat, place ((m % 16 : Nat) : Int) = true := fun m => by simp [place]; omega
    have e0 : D.stE ((n % 16 : Nat) : Int) b = 0 := by
      have ho : D.owns 4 5 ((n % 16 : Nat) : Int) = false := by unfold Dev.owns; rw [h.head, h.tail, ← hn]; simp [own]
      unfold Dev.stE
      rw [if_neg (by rw [hp, ho]; simp), if_neg (by omega), if_neg (by omega)]
    have e2 : D.stD ((n % 16 : Nat) : Int) b = { D with txf := upd D.txf (n % 16) b } := by unfold Dev.stD; rw [if_pos e0, Int.toNat_natCast]
    have e3 : ∀ D' : Dev, D'.wrD 5 (((n + 1) % 16 : Nat) : Int) = D'.post (((n + 1) % 16 : Nat) : Int) := fun D' => by
      unfold Dev.wrD; rw [if_neg (by omega), if_neg (by omega), if_neg (by omega), if_pos ⟨rfl, hp _⟩]
    have hok := (h.ok.st ((n % 16 : Nat) : Int) b).wr 5 (((n + 1) % 16 : Nat) : Int)
    refine ⟨e0, n + 1, by omega, ?_⟩
    rw [e3, e2] at hok ⊢
    refine ⟨hok, ⟨h.on.1, h.on.2⟩, by simp [h.len], by simp [← hn], ?_, ?_, h.rx, fun j hj1 hj2 => ?_⟩
    · have hh := h.head
      have : (Dev.post { D with txf := upd D.txf (n % 16) b } (((n + 1) % 16 : Nat) : Int)).r 4 = D.r 4 := by simp [Dev.post, upd]
      rw [this, hh]; omega
    · simp [Dev.post, upd, ← hn]
    · simp only [List.length_append, List.length_cons, List.length_nil, ← hn] at hj2
      omega
  · obtain ⟨e0, _, hc, _⟩ := h.send (by omega) b h1 h2
    exact ⟨e0, taken, Nat.le_refl _, hc⟩
theorem Carry.long {D : Dev} {S : List (List Int)} {T : List Int} {taken free : Nat} (h : Carry D S T taken free) (b : List Int) (h2 : 274 < b.length) : D.stE ((S.length % 16 : Nat) : Int) b = 2 ∧ D.stD ((S.length % 16 : Nat) : Int) b = D := by
  have hp : place ((S.length % 16 : Nat) : Int) = true := by simp [place]; omega
  have e0 : D.stE ((S.length % 16 : Nat) : Int) b = 2 := by
    have ho : D.owns 4 5 ((S.length % 16 : Nat) : Int) = false := by unfold Dev.owns; rw [h.head, h.tail]; simp [own]
    unfold Dev.stE
    rw [if_neg (by rw [hp, ho]; simp), if_neg (by omega), if_pos h2]
  refine ⟨e0, ?_⟩
  unfold Dev.stD; rw [if_neg (by rw [e0]; omega)]

section
variable {ck : Int} {l : Nat → List Frm} {D : Nat → Dev} {F : Nat → Nat} {S : Nat → List (List Int)} {TT : Nat → List Int} {tk : Nat → Nat} {BS : List (List Int)} {PT LF : List Int} {m : Nat}
/-- a device's other side has gone on -/
theorem Brg.actsF (h : Brg ck l D F S TT tk BS PT LF m) (i : Nat) (f' : Nat) {D' : Dev} (hc : i < 2 → Carry D' (S i) (TT i) (tk i) f') : Brg ck l (upd D i D') (upd F i f') S TT tk BS PT LF m := by
  refine ⟨h.lenP, h.lenL, fun j hj => ?_, h.pen, h.fly, h.yng, h.cnt, h.lfb⟩
  by_cases e : j = i
  · subst e; rw [upd_same, upd_same]; exact hc hj
  · rw [upd_other _ _ _ _ e, upd_other _ _ _ _ e]; exact h.car j hj
theorem Brg.known (h : Brg ck l D F S TT tk BS PT LF m) {i j : Nat} (hi : i < 2) {f : Frm} (hf : (l i)[j]? = some f) (hb : f.bad = false) :
    numN f.bs < BS.length ∧ BS[numN f.bs]? = some f.bs ∧ PT[numN f.bs]? = some f.tick ∧ (1 : Int) ≤ LF[numN f.bs]?.getD 0 ∧ ∃ r, f.bs = ((numN f.bs / 256 : Nat) : Int) :: ((numN f.bs % 256 : Nat) : Int) :: (i : Int) :: r := by
  have hk := h.fly i hi f (List.mem_of_getElem? hf) hb
  have h1 := hk.num
  have hlt := (List.getElem?_eq_some_iff.1 h1.1).1
  refine ⟨hlt, h1.1, h1.2, ?_, ?_⟩
  · have hc := h.cnt _ hlt
    have : 1 ≤ cW (numN f.bs) (l i) := by
      rw [cW_erase _ _ _ _ hf]
      have : cW (numN f.bs) [f] = 1 := by unfold cW; simp [hb]
      omega
    have hg : cW (numN f.bs) (l i) ≤ gg (numN f.bs) l S tk i := by unfold gg; omega
    have : i = 0 ∨ i = 1 := by omega
    rcases this with rfl | rfl <;> omega
  · obtain ⟨n, _, _, r, e⟩ := hk
    have hn : numN f.bs = n := by rw [e]; exact numN_of
    exact ⟨r, by rw [hn]; exact e⟩
theorem set_get {L : List Int} {n k : Nat} {x : Int} (hn : n < L.length) : (L.set n x)[k]?.getD 0 = if k = n then x else L[k]?.getD 0 := by
  by_cases e : k = n
  · subst e; rw [if_pos rfl, List.getElem?_set_self hn]; rfl
  · rw [if_neg e, List.getElem?_set_ne (fun q => e q.symm)]
/-- one that is good goes from the wire -/
theorem Brg.took (h : Brg ck l D F S TT tk BS PT LF m) {i j : Nat} (hi : i < 2) {f : Frm} (hf : (l i)[j]? = some f) (hb : f.bad = false) : Brg ck (upd l i ((l i).eraseIdx j)) D F S TT tk BS PT (LF.set (numN f.bs) (LF[numN f.bs]?.getD 0 - 1)) (m + 1) := by
  obtain ⟨hlt, _⟩ := h.known hi hf hb
  have hl : numN f.bs < LF.length := by rw [h.lenL]; exact hlt
  have h1 := h.list i (f' := (l i).eraseIdx j) (fun _ f hf _ => mem_erase hf) (fun _ f hf => h.yng i hi f (mem_erase hf)) (fun _ n => cW_sub (List.eraseIdx_sublist ..))
  refine ⟨h.lenP, by rw [List.length_set]; exact h.lenL, h.car, h.pen, h1.fly, h1.yng, fun n hn => ?_, fun x hx => ?_⟩
  · rw [set_get hl]
    by_cases e : n = numN f.bs
    · rw [if_pos e]
      have hc := h.cnt n hn
      have key : gg n (upd l i ((l i).eraseIdx j)) S tk 0 + gg n (upd l i ((l i).eraseIdx j)) S tk 1 + 1 = gg n l S tk 0 + gg n l S tk 1 := by
        have e1 := cW_erase n _ _ _ hf
        have e2 : cW n [f] = 1 := by unfold cW; simp [hb, e]
        have : i = 0 ∨ i = 1 := by omega
        unfold gg
        rcases this with rfl | rfl
        · rw [upd_same, upd_other _ _ _ _ (by omega)]; omega
        · rw [upd_same, upd_other _ _ _ _ (by omega)]; omega
      rw [e] at hc key ⊢
      omega
    · rw [if_neg e]; exact h1.cnt n hn
  · rcases List.mem_or_eq_of_mem_set hx with hx | rfl
    · have := h.lfb x hx; omega
    · have := h.lfb (LF[numN f.bs]?.getD 0) (by rw [List.getElem?_eq_getElem hl]; exact List.getElem_mem hl); omega
/-- one that is good is doubled -/
theorem Brg.twice (h : Brg ck l D F S TT tk BS PT LF m) {i j : Nat} (hi : i < 2) {f : Frm} (hf : (l i)[j]? = some f) (hb : f.bad = false) : Brg ck (upd l i (l i ++ [f])) D F S TT tk BS PT (LF.set (numN f.bs) (LF[numN f.bs]?.getD 0 + 1)) (m + 1) := by
  obtain ⟨hlt, _⟩ := h.known hi hf hb
  have hl : numN f.bs < LF.length := by rw [h.lenL]; exact hlt
  have hmem : ∀ q ∈ l i ++ [f], q ∈ l i := fun q hq => by
    rcases List.mem_append.1 hq with hq | hq
    · exact hq
    · rw [List.mem_singleton.1 hq]; exact List.mem_of_getElem? hf
  refine ⟨h.lenP, by rw [List.length_set]; exact h.lenL, h.car, h.pen, fun k hk => ?_, fun k hk => ?_, fun n hn => ?_, fun x hx => ?_⟩
  · by_cases e : k = i
    · subst e; rw [upd_same]; exact fun q hq => h.fly k hk q (hmem q hq)
    · rw [upd_other _ _ _ _ e]; exact h.fly k hk
  · by_cases e : k = i
    · subst e; rw [upd_same]; exact fun q hq => h.yng k hk q (hmem q hq)
    · rw [upd_other _ _ _ _ e]; exact h.yng k hk
  · have e1 : cW n (l i ++ [f]) = cW n (l i) + cW n [f] := by unfold cW; rw [List.countP_append]
    have key : gg n (upd l i (l i ++ [f])) S tk 0 + gg n (upd l i (l i ++ [f])) S tk 1 = gg n l S tk 0 + gg n l S tk 1 + cW n [f] := by
      have : i = 0 ∨ i = 1 := by omega
      unfold gg
      rcases this with rfl | rfl
      · rw [upd_same, upd_other _ _ _ _ (by omega)]; omega
      · rw [upd_same, upd_other _ _ _ _ (by omega)]; omega
    have hc := h.cnt n hn
    rw [set_get hl]
    by_cases e : n = numN f.bs
    · rw [if_pos e]
      have e2 : cW n [f] = 1 := by unfold cW; simp [hb, e]
      rw [e] at hc key e2 ⊢
      omega
    · rw [if_neg e]
      have e2 : cW n [f] = 0 := by unfold cW; simp [hb, show ¬ numN f.bs = n from fun q => e q.symm]
      omega
  · rcases List.mem_or_eq_of_mem_set hx with hx | rfl
    · have := h.lfb x hx; omega
    · have := h.lfb (LF[numN f.bs]?.getD 0) (by rw [List.getElem?_eq_getElem hl]; exact List.getElem_mem hl); omega
/-- a bad one is doubled -/
theorem Brg.twiceB (h : Brg ck l D F S TT tk BS PT LF m) {i j : Nat} (hi : i < 2) {f : Frm} (hf : (l i)[j]? = some f) (hb : f.bad = true) : Brg ck (upd l i (l i ++ [f])) D F S TT tk BS PT LF (m + 1) := by
  refine (h.list i (fun _ q hq hqb => ?_) (fun _ q hq => ?_) (fun _ n => ?_)).more
  · rcases List.mem_append.1 hq with hq | hq
    · exact hq
    · rw [List.mem_singleton.1 hq, hb] at hqb; cases hqb
  · rcases List.mem_append.1 hq with hq | hq
    · exact h.yng i hi q hq
    · rw [List.mem_singleton.1 hq]; exact h.yng i hi f (List.mem_of_getElem? hf)
  · unfold cW; rw [List.countP_append]; simp [hb]
theorem cW_zero (h : Brg ck l D F S TT tk BS PT LF m) (i : Nat) (hi : i < 2) : cW BS.length (l i) = 0 := by
  unfold cW
  refine List.countP_eq_zero.2 (fun f hf => ?_)
  cases hb : f.bad with
  | true => simp
  | false =>
    have := (List.getElem?_eq_some_iff.1 (h.fly i hi f hf hb).num.1).1
    simp; omega
theorem cQ_zero (h : Brg ck l D F S TT tk BS PT LF m) (i : Nat) (hi : i < 2) : cQ BS.length ((S i).drop (tk i)) = 0 := by
  unfold cQ
  refine List.countP_eq_zero.2 (fun b hb => ?_)
  obtain ⟨j, hj, rfl⟩ := List.mem_iff_getElem.1 hb
  rw [List.length_drop] at hj
  have hk := h.pen i hi (tk i + j) (by omega) (by omega)
  rw [List.getElem?_eq_getElem (by omega)] at hk
  have := (List.getElem?_eq_some_iff.1 hk.num.1).1
  simp only [Option.getD_some] at this
  rw [List.getElem_drop]
  simp; omega
/-- one is posted -/
theorem Brg.post (h : Brg ck l D F S TT tk BS PT LF m) (i : Nat) (hi : i < 2) (r : List Int) (b : List Int) (hb : b = ((BS.length / 256 : Nat) : Int) :: ((BS.length % 256 : Nat) : Int) :: (i : Int) :: r) (a : Nat) {D' : Dev} (ha : tk i ≤ a) (hc : Carry D' (S i ++ [b]) (TT i ++ [ck]) a (F i)) :
    Brg ck l (upd D i D') F (upd S i (S i ++ [b])) (upd TT i (TT i ++ [ck])) (upd tk i a) (BS ++ [b]) (PT ++ [ck]) (LF ++ [1]) (m + 1) := by
  have hnb : numN b = BS.length := by rw [hb]; exact numN_of
  have hlt := (h.car i hi).tk
  have hln := (h.car i hi).len
  refine ⟨by simp [h.lenP], by simp [h.lenL], fun j hj => ?_, fun j hj => ?_, fun j hj f hf hbd => (h.fly j hj f hf hbd).more _ _, h.yng, fun n hn => ?_, fun x hx => ?_⟩
  · by_cases e : j = i
    · subst e; rw [upd_same, upd_same, upd_same, upd_same]; exact hc
    · rw [upd_other _ _ _ _ e, upd_other _ _ _ _ e, upd_other _ _ _ _ e, upd_other _ _ _ _ e]; exact h.car j hj
  · by_cases e : j = i
    · subst e; rw [upd_same, upd_same, upd_same]
      intro k h1 h2
      rw [List.length_append, List.length_cons, List.length_nil] at h2
      by_cases ek : k < (S j).length
      · rw [List.getElem?_append_left ek, List.getElem?_append_left (by rw [hln]; exact ek)]
        exact (h.pen j hj k (by omega) ek).more _ _
      · obtain rfl : k = (S j).length := by omega
        rw [List.getElem?_append_right (Nat.le_refl _), Nat.sub_self, List.getElem?_append_right (by omega), hln, Nat.sub_self]
        refine ⟨BS.length, ?_, ?_, r, hb⟩
        · rw [List.getElem?_append_right (Nat.le_refl _), Nat.sub_self]; rfl
        · rw [← h.lenP, List.getElem?_append_right (Nat.le_refl _), Nat.sub_self]; rfl
    · rw [upd_other _ _ _ _ e, upd_other _ _ _ _ e, upd_other _ _ _ _ e]
      exact fun k h1 h2 => (h.pen j hj k h1 h2).more _ _
  · rw [List.length_append, List.length_cons, List.length_nil] at hn
    have key : ∀ j, j < 2 → gg n l (upd S i (S i ++ [b])) (upd tk i a) j ≤ gg n l S tk j + (if j = i then cQ n [b] else 0) := fun j hj => by
      unfold gg
      by_cases e : j = i
      · subst e; rw [upd_same, upd_same, if_pos rfl]
        have h1 := cQ_le n (S j ++ [b]) ha
        have h2 : cQ n ((S j ++ [b]).drop (tk j)) = cQ n ((S j).drop (tk j)) + cQ n [b] := by
          rw [List.drop_append_of_le_length (by omega)]; unfold cQ; rw [List.countP_append]
        omega
      · rw [upd_other _ _ _ _ e, upd_other _ _ _ _ e, if_neg e]; omega
    have h0 := key 0 (by omega)
    have h1 := key 1 (by omega)
    have hs : (if 0 = i then cQ n [b] else 0) + (if 1 = i then cQ n [b] else 0) = cQ n [b] := by
      have : i = 0 ∨ i = 1 := by omega
      rcases this with rfl | rfl <;> simp
    by_cases e : n = BS.length
    · have z0 : gg n l S tk 0 = 0 := by rw [e]; unfold gg; rw [cW_zero h 0 (by omega), cQ_zero h 0 (by omega)]
      have z1 : gg n l S tk 1 = 0 := by rw [e]; unfold gg; rw [cW_zero h 1 (by omega), cQ_zero h 1 (by omega)]
      have : (LF ++ [1])[n]?.getD 0 = 1 := by rw [e, ← h.lenL, List.getElem?_append_right (Nat.le_refl _), Nat.sub_self]; rfl
      rw [this]
      have : cQ n [b] ≤ 1 := List.countP_le_length
      omega
    · have : (LF ++ [1])[n]?.getD 0 = LF[n]?.getD 0 := by rw [List.getElem?_append_left (by rw [h.lenL]; omega)]
      rw [this]
      have : cQ n [b] = 0 := by unfold cQ; simp [hnb]; omega
      have := h.cnt n (by omega)
      omega
  · rcases List.mem_append.1 hx with hx | hx
    · have := h.lfb x hx; omega
    · rw [List.mem_singleton.1 hx]; omega
end
end Go.Proofs.Ytghojbgjmpjhgaa
