/-
  NicCarries: what holds between its rounds, and what its four calls do to it; one element appended to a row of the call's own.
-/
import Derived.Test.YtjcdhpfilkojaaaNOk
import Derived.Deep.DeepAppendRoom
namespace Go.Proofs.Ytjcdhpfilkojaaa
open Go.RowKit

/-- frames S were posted at T; of them so many were taken; the next descriptor for what comes is free -/
structure Carry (D : Dev) (S : List (List Int)) (T : List Int) (taken free : Nat) : Prop where
  ok : D.Ok
  on : D.r 0 = 1 ∧ D.r 1 = 1
  len : T.length = S.length
  tk : taken ≤ S.length ∧ S.length ≤ taken + 15
  head : D.r 4 = ((taken % 16 : Nat) : Int)
  tail : D.r 5 = ((S.length % 16 : Nat) : Int)
  rx : D.r 2 = (free : Int) ∧ D.r 3 = (free : Int) ∧ free < 16
  fr : ∀ j, taken ≤ j → j < S.length → D.txf (j % 16) = S[j]?.getD [] ∧ D.posted (j % 16) = T[j]?.getD 0

theorem Carry.runs {D : Dev} {S : List (List Int)} {T : List Int} {taken free : Nat} (h : Carry D S T taken free) : D.runs = true := by
  unfold Dev.runs; simp [h.on]
theorem Carry.new : Carry (Dev.new.wrD 0 1) [] [] 0 0 := by
  refine ⟨Dev.Ok.new.wr _ _, ⟨by decide, by decide⟩, rfl, by simp, by decide, by decide, ⟨by decide, by decide, by omega⟩, fun j h1 h2 => by simp at h2⟩
theorem Carry.tick {D : Dev} {S : List (List Int)} {T : List Int} {taken free : Nat} (h : Carry D S T taken free) : Carry D.tick S T taken free :=
  ⟨h.ok.tick, h.on, h.len, h.tk, h.head, h.tail, h.rx, h.fr⟩

/-- one is sent -/
theorem Carry.send {D : Dev} {S : List (List Int)} {T : List Int} {taken free : Nat} (h : Carry D S T taken free) (hroom : S.length ≠ taken + 15) (b : List Int) (h1 : 1 ≤ b.length) (h2 : b.length ≤ 274) :
    D.stE ((S.length % 16 : Nat) : Int) b = 0 ∧ wrE 5 (((S.length + 1) % 16 : Nat) : Int) = 0 ∧ Carry ((D.stD ((S.length % 16 : Nat) : Int) b).wrD 5 (((S.length + 1) % 16 : Nat) : Int)) (S ++ [b]) (T ++ [D.clock]) taken free ∧ ((D.stD ((S.length % 16 : Nat) : Int) b).wrD 5 (((S.length + 1) % 16 : Nat) : Int)).clock = D.clock := by
  obtain ⟨n, hn⟩ : ∃ n, n = S.length := ⟨_, rfl⟩
  have htk := h.tk
  rw [← hn] at hroom htk ⊢
  have hp : ∀ m : Nat, place ((m % 16 : Nat) : Int) = true := fun m => by simp [place]; omega
  have e0 : D.stE ((n % 16 : Nat) : Int) b = 0 := by
    have ho : D.owns 4 5 ((n % 16 : Nat) : Int) = false := by unfold Dev.owns; rw [h.head, h.tail, ← hn]; simp [own]
    unfold Dev.stE
    rw [if_neg (by rw [hp, ho]; simp), if_neg (by omega), if_neg (by omega)]
  have e1 : wrE 5 (((n + 1) % 16 : Nat) : Int) = 0 := by unfold wrE; rw [if_pos (.inr ⟨.inr rfl, hp _⟩)]
  have e2 : D.stD ((n % 16 : Nat) : Int) b = { D with txf := upd D.txf (n % 16) b } := by unfold Dev.stD; rw [if_pos e0, Int.toNat_natCast]
  have e3 : ∀ D' : Dev, D'.wrD 5 (((n + 1) % 16 : Nat) : Int) = D'.post (((n + 1) % 16 : Nat) : Int) := fun D' => by
    unfold Dev.wrD; rw [if_neg (by omega), if_neg (by omega), if_neg (by omega), if_pos ⟨rfl, hp _⟩]
  refine ⟨e0, e1, ?_, ?_⟩
  · have hok := (h.ok.st ((n % 16 : Nat) : Int) b).wr 5 (((n + 1) % 16 : Nat) : Int)
    rw [e3, e2] at hok ⊢
    refine ⟨hok, ⟨h.on.1, h.on.2⟩, by simp [h.len], by simp [← hn]; omega, h.head, ?_, h.rx, fun j hj1 hj2 => ?_⟩
    · simp [Dev.post, upd, ← hn]
    · simp only [List.length_append, List.length_cons, List.length_nil, ← hn] at hj2
      simp only [Dev.post, h.tail, Int.toNat_natCast, ← hn]
      by_cases ej : j = n
      · subst ej
        have eo : own (j % 16) ((j + 1) % 16) (j % 16) = true := by simp only [own, decide_eq_true_eq]; omega
        rw [eo, upd_same]
        refine ⟨?_, ?_⟩
        · rw [hn]; simp
        · have : j = T.length := by rw [h.len]; exact hn
          rw [this]; simp
      · have eo : own (n % 16) ((n + 1) % 16) (j % 16) = false := by simp only [own, decide_eq_false_iff_not]; omega
        rw [eo, upd_other _ _ _ _ (by omega)]
        have hj : j < S.length := by omega
        have := h.fr j hj1 hj
        rw [List.getElem?_append_left hj, List.getElem?_append_left (by rw [h.len]; exact hj)]
        simpa using this
  · rw [e3, e2]; rfl

/-- one is taken, or there is none -/
theorem Carry.take {D : Dev} {S : List (List Int)} {T : List Int} {taken free : Nat} (h : Carry D S T taken free) (hlt : taken < S.length) :
    D.tkE = 0 ∧ D.tkF = S[taken]?.getD [] ∧ D.tkT = T[taken]?.getD 0 ∧ Carry D.tkD S T (taken + 1) free ∧ D.tkD.clock = D.clock := by
  have htk := h.tk
  have ne : ¬ D.r 4 = D.r 5 := by rw [h.head, h.tail]; omega
  have e0 : D.tkE = 0 := by unfold Dev.tkE; rw [if_pos h.runs, if_neg ne]
  have hf := h.fr taken (Nat.le_refl _) hlt
  refine ⟨e0, ?_, ?_, ?_, ?_⟩
  · unfold Dev.tkF; rw [if_pos e0, h.head, Int.toNat_natCast]; exact hf.1
  · unfold Dev.tkT; rw [if_pos e0, h.head, Int.toNat_natCast]; exact hf.2
  · have hok := h.ok.tk
    unfold Dev.tkD at hok ⊢
    rw [if_pos e0] at hok ⊢
    refine ⟨hok, ⟨h.on.1, h.on.2⟩, h.len, by omega, ?_, h.tail, h.rx, fun j hj1 hj2 => h.fr j (by omega) hj2⟩
    show nxt (D.r 4) = _
    rw [h.head]; unfold nxt; omega
  · unfold Dev.tkD; rw [if_pos e0]
theorem Carry.none {D : Dev} {S : List (List Int)} {T : List Int} {taken free : Nat} (h : Carry D S T taken free) (hge : ¬ taken < S.length) :
    D.tkE = 7 ∧ D.tkF = [] ∧ D.tkT = 0 ∧ D.tkD = D := by
  have htk := h.tk
  have e : D.r 4 = D.r 5 := by rw [h.head, h.tail]; omega
  have e0 : D.tkE = 7 := by unfold Dev.tkE; rw [if_pos h.runs, if_pos e]
  refine ⟨e0, ?_, ?_, ?_⟩
  · unfold Dev.tkF; rw [if_neg (by rw [e0]; omega)]
  · unfold Dev.tkT; rw [if_neg (by rw [e0]; omega)]
  · unfold Dev.tkD; rw [if_neg (by rw [e0]; omega)]

/-- one comes -/
theorem Carry.come {D : Dev} {S : List (List Int)} {T : List Int} {taken free : Nat} (h : Carry D S T taken free) (b : List Int) (h2 : b.length ≤ 274) :
    D.srE (free : Int) 274 = 0 ∧ wrE 3 (((free + 1) % 16 : Nat) : Int) = 0 ∧ ((D.srD (free : Int) 274).wrD 3 (((free + 1) % 16 : Nat) : Int)).gvE b = 0 ∧
    (((D.srD (free : Int) 274).wrD 3 (((free + 1) % 16 : Nat) : Int)).gvD b false).rxE (free : Int) = 0 ∧ (((D.srD (free : Int) 274).wrD 3 (((free + 1) % 16 : Nat) : Int)).gvD b false).rxF (free : Int) = b ∧
    Carry (((D.srD (free : Int) 274).wrD 3 (((free + 1) % 16 : Nat) : Int)).gvD b false) S T taken ((free + 1) % 16) ∧ (((D.srD (free : Int) 274).wrD 3 (((free + 1) % 16 : Nat) : Int)).gvD b false).clock = D.clock := by
  obtain ⟨r2, r3, hf⟩ := h.rx
  have hp : place (free : Int) = true := by simp [place]; omega
  have hp' : place (((free + 1) % 16 : Nat) : Int) = true := by simp [place]; omega
  have e0 : D.srE (free : Int) 274 = 0 := by
    unfold Dev.srE Dev.owns
    rw [hp, r2, r3]
    simp [own]
  have e1 : wrE 3 (((free + 1) % 16 : Nat) : Int) = 0 := by unfold wrE; rw [if_pos (.inr ⟨.inl rfl, hp'⟩)]
  have e2 : D.srD (free : Int) 274 = { D with room := upd D.room free 274, held := upd D.held free false, rxf := upd D.rxf free [], bad := upd D.bad free false } := by unfold Dev.srD; rw [if_pos e0, Int.toNat_natCast]
  have e3 : ∀ D' : Dev, D'.wrD 3 (((free + 1) % 16 : Nat) : Int) = { D' with r := upd D'.r 3 (((free + 1) % 16 : Nat) : Int) } := fun D' => by
    unfold Dev.wrD; rw [if_neg (by omega), if_neg (by omega), if_pos ⟨rfl, hp'⟩]
  have ok2 := (h.ok.sr (free : Int) 274).wr 3 (((free + 1) % 16 : Nat) : Int)
  rw [e3, e2] at ok2 ⊢
  obtain ⟨D2, hD2⟩ : ∃ D2, D2 = ({ D with r := upd D.r 3 (((free + 1) % 16 : Nat) : Int), room := upd D.room free 274, held := upd D.held free false, rxf := upd D.rxf free [], bad := upd D.bad free false } : Dev) := ⟨_, rfl⟩
  rw [← hD2] at ok2 ⊢
  have run2 : D2.runs = true := by rw [hD2]; unfold Dev.runs; simp [upd, h.on]
  have r22 : D2.r 2 = (free : Int) := by rw [hD2]; simp [upd, r2]
  have r23 : D2.r 3 = (((free + 1) % 16 : Nat) : Int) := by rw [hD2]; simp [upd]
  have rm2 : D2.room free = 274 := by rw [hD2]; simp [upd]
  have g0 : D2.gvE b = 0 := by
    unfold Dev.gvE; rw [if_pos run2, if_neg (by rw [r22, r23]; omega), if_neg (by rw [r22, Int.toNat_natCast, rm2]; omega)]
  have g1 : D2.gvD b false = D2.fill b false := by unfold Dev.gvD; rw [if_neg (by rw [g0]; omega), if_pos g0]
  have ok3 := ok2.gv b false
  rw [g1] at ok3 ⊢
  have x0 : (D2.fill b false).rxE (free : Int) = 0 := by
    unfold Dev.rxE; rw [if_pos hp, Int.toNat_natCast]
    simp only [Dev.fill, r22, Int.toNat_natCast, upd_same, if_true]
  refine ⟨e0, e1, g0, x0, ?_, ?_, ?_⟩
  · unfold Dev.rxF; rw [if_pos x0]; simp only [Dev.fill, r22, Int.toNat_natCast, upd_same]
  · refine ⟨ok3, ?_, h.len, h.tk, ?_, ?_, ?_, fun j hj1 hj2 => ?_⟩
    · rw [hD2]; simp [Dev.fill, upd, h.on]
    · rw [hD2]; simp [Dev.fill, upd, h.head]
    · rw [hD2]; simp [Dev.fill, upd, h.tail]
    · refine ⟨?_, ?_, by omega⟩
      · have : (D2.fill b false).r 2 = nxt (D2.r 2) := by simp [Dev.fill, upd]
        rw [this, r22]; unfold nxt; omega
      · have : (D2.fill b false).r 3 = D2.r 3 := by simp [Dev.fill, upd]
        rw [this, r23]
    · have := h.fr j hj1 hj2
      rw [hD2]; exact this
  · rw [hD2]; rfl

/-- one element appended to a row of the call's own: its block is the old one, or new -/
theorem run_one {B : Nat} {W : World} (T e : TypeId) (i : TypeInfo) (z : Value) (bytes : Nat) (ht : Try.prog.underlying T = some (.slice e)) (hi : Try.prog.info? e = some i) (hz : i.zero = some z) (hsz : i.size = 1) (hby : i.bytes = bytes) (hzs : z.cells.size = 1)
    {a : Option Addr} {n c : Nat} {xs : List Value} (hx : W.ownsRow B e 1 (.slice a n c) n xs) (g : Nat) (u : Value) (hu : W.cell? ⟨g, 0, none⟩ = some u) (h1 : u.oneCell' = true) (hB : B ≤ W.heap.size) (hl : n + 1 ≤ maxLen) (hl2 : (n + 1) * bytes ≤ 140737488355328) :
    ∃ a' c' w', (Builtin.append_ #[T, T] T #[.slice a n c, .slice (some ⟨g, 0, none⟩) 1 1]).run Try.prog W = .ok (.slice a' (n + 1) c') w' ∧ w'.ownsRow B e 1 (.slice a' (n + 1) c') (n + 1) (xs ++ [u]) ∧ But (fun k => a = some ⟨k, 0, none⟩) W w' ∧
      (∀ k, a' = some ⟨k, 0, none⟩ → a = some ⟨k, 0, none⟩ ∨ W.heap.size ≤ k) ∧ n + 1 ≤ c' := by
  have hnews : ∀ (j : Nat) (v : Value), [u][j]? = some v → W.cell? ((⟨g, 0, none⟩ : Addr).add j) = some v := fun j v hv => by
    have : j = 0 := by have := (List.getElem?_eq_some_iff.1 hv).1; simp at this; omega
    subst this
    simp at hv
    rw [← hv, Addr.add_lit]; exact hu
  have h1' : ∀ v ∈ [u], v.oneCell' = true := fun v hv => by rw [List.mem_singleton] at hv; rw [hv]; exact h1
  obtain ⟨v', w', hrun, ho, hg, _⟩ := run_append_own (P := Try.prog) W B T T e i z 1 bytes ht hi hz hsz hby hzs (by decide) _ n xs hx ⟨g, 0, none⟩ 1 1 [u] (by simp) hnews h1' hl hl2 hB
  have hbut : But (fun k => a = some ⟨k, 0, none⟩) W w' := ⟨hg.os, hg.tape, hg.output, hg.size, fun k hk hne => hg.block k hk (fun e => hne (by
    obtain ⟨_, ⟨e1, _⟩ | ⟨g0, cp, cur, e1, _⟩⟩ := hx
    · simp only [Value.slice.injEq] at e1
      obtain ⟨rfl, _, _⟩ := e1
      simp [Value.ownBlock] at e
    · simp only [Value.slice.injEq] at e1
      obtain ⟨rfl, _, _⟩ := e1
      simp [Value.ownBlock] at e
      rw [e]))⟩
  have ho' := ho
  obtain ⟨_, ⟨e1, h0⟩ | ⟨k', c', cur, rfl, hk', hh, hc', _⟩⟩ := ho
  · omega
  refine ⟨_, _, _, hrun, ho', hbut, fun k ek => ?_, hc'⟩
  simp only [Option.some.injEq, Addr.mk.injEq, and_true] at ek
  subst ek
  have hxw := hx
  obtain ⟨hxl, ⟨e1, hn0⟩ | ⟨g0, cp, cur0, e1, hg0, hh0, hnc, hcm, hcs, htk⟩⟩ := hx
  · simp only [Value.slice.injEq] at e1
    obtain ⟨rfl, rfl, rfl⟩ := e1
    have hxs : xs = [] := List.eq_nil_of_length_eq_zero (by simpa using hxl)
    subst hxs
    obtain ⟨v2, w2, hrun2, ho2, _, _⟩ := run_append_own (P := Try.prog) W W.heap.size T T e i z 1 bytes ht hi hz hsz hby hzs (by decide) _ 0 [] (World.ownsRow_nil W W.heap.size e 1) ⟨g, 0, none⟩ 1 1 [u] (by simp) hnews h1' hl hl2 (Nat.le_refl _)
    rw [hrun] at hrun2
    simp only [Result.ok.injEq] at hrun2
    obtain ⟨rfl, rfl⟩ := hrun2
    obtain ⟨_, ⟨e3, _⟩ | ⟨k3, c3, cur3, e3, hk3, _⟩⟩ := ho2
    · simp at e3
    · simp only [Value.slice.injEq, Option.some.injEq, Addr.mk.injEq, and_true] at e3
      obtain ⟨rfl, _⟩ := e3
      exact .inr hk3
  · simp only [Value.slice.injEq] at e1
    obtain ⟨rfl, _, rfl⟩ := e1
    by_cases hroom : n + 1 ≤ c
    · obtain ⟨w2, hrun2, _, _⟩ := run_append_own_spare (P := Try.prog) W B T T e i 1 ht hi hsz g0 n c xs hxw ⟨g, 0, none⟩ 1 1 [u] (by simp) hnews h1' hroom
      rw [hrun] at hrun2
      simp only [Result.ok.injEq, Value.slice.injEq, Option.some.injEq, Addr.mk.injEq, and_true] at hrun2
      rw [hrun2.1.1]
      exact .inl rfl
    · have hr := run_append_grow (P := Try.prog) W T T e i z ht hi hz ⟨g0, 0, none⟩ n c xs (by rw [hsz]; exact hxl) (hxw.cells (g := g0) rfl) ⟨g, 0, none⟩ 1 1 [u] (by rw [hsz]; simp) hnews (by omega) (by unfold maxLen at hl; omega) (growslice_fits (by omega) (by rw [hby]; exact hl2))
      rw [hrun] at hr
      simp only [Result.ok.injEq, Value.slice.injEq, Option.some.injEq, Addr.mk.injEq, and_true] at hr
      rw [hr.1.1]
      exact .inr (Nat.le_refl _)

end Go.Proofs.Ytjcdhpfilkojaaa
