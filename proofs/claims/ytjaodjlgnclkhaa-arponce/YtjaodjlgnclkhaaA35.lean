
/-
  ArpLearns, in numbers; a law's cache beside a block of the law's own.
-/
import Derived.Test.YtjaodjlgnclkhaaA34
import Derived.Test.YtjaodjlgnclkhaaA28
import Derived.Test.YtjaodjlgnclkhaaAOp
namespace Go.Proofs.Ytjaodjlgnclkhaa
open Go.RowKit Go.Shelf

def lip (n : Nat) : I4 := ⟨10, 0, 0, 2 + (n : Int)⟩
theorem lip_inj {n m : Nat} (h : lip n = lip m) : n = m := by
  unfold lip at h
  simp at h
  omega
theorem fndI_of {L : List Nb} (hn : (L.map Nb.ip).Nodup) {k : Nat} {x : Nb} (hk : L[k]? = some x) : fndI x.ip L = some k := by
  refine fndI_some (fun j y hj hy => ?_) hk (eqI_self _)
  have hp := List.pairwise_iff_getElem.1 hn
  obtain ⟨l1, e1⟩ := List.getElem?_eq_some_iff.1 hy
  obtain ⟨l2, e2⟩ := List.getElem?_eq_some_iff.1 hk
  have := hp j k (by simpa using l1) (by simpa using l2) hj
  simp [e1, e2] at this
  simpa [eqI] using this
theorem nodup_lt : ∀ (k : Nat) (l : List Nat), l.Nodup → (∀ x ∈ l, x < k) → l.length ≤ k
  | 0, l, _, h => by
    cases l with
    | nil => simp
    | cons a l => exact absurd (h a (by simp)) (by omega)
  | k + 1, l, hn, h => by
    have h1 : (l.erase k).Nodup := hn.sublist List.erase_sublist
    have h2 := nodup_lt k (l.erase k) h1 (fun x hx => by
      have h3 := h x (List.mem_of_mem_erase hx)
      have h4 : x ≠ k := fun e => by
        rw [e] at hx
        exact (List.Nodup.mem_erase_iff hn).1 hx |>.1 rfl
      omega)
    have h5 := List.length_erase (a := k) (l := l)
    split at h5 <;> omega
structure LnI (now : Int) (L : List Nb) (SD : Nat → M6) : Prop where
  ok : LOk now L
  each : ∀ x ∈ L, x.st = 2 ∧ ∃ n, n < 7 ∧ x.ip = lip n ∧ x.mac = SD n
theorem LnI.len {now : Int} {L : List Nb} {SD : Nat → M6} (h : LnI now L SD) : L.length ≤ 7 := by
  have e : ∀ x ∈ L, x.ip = lip (x.ip.d - 2).toNat ∧ (x.ip.d - 2).toNat < 7 := fun x hx => by
    obtain ⟨_, n, hn, hi, _⟩ := h.each x hx
    rw [hi]
    have : (2 + (n : Int) - 2).toNat = n := by omega
    show lip n = lip (2 + (n : Int) - 2).toNat ∧ (2 + (n : Int) - 2).toNat < 7
    rw [this]
    exact ⟨rfl, hn⟩
  have hm : (L.map (fun x => (x.ip.d - 2).toNat)).Nodup := by
    have hn := h.ok.ips
    unfold List.Nodup at hn ⊢
    rw [List.pairwise_map] at hn ⊢
    refine hn.imp_of_mem (fun {x y} hx hy hne e2 => hne ?_)
    rw [(e x hx).1, (e y hy).1, e2]
  have := nodup_lt 7 _ hm (fun q hq => by
    obtain ⟨x, hx, rfl⟩ := List.mem_map.1 hq
    exact (e x hx).2)
  simpa using this
theorem LnI.hears {now0 now : Int} {L : List Nb} {SD : Nat → M6} (h : LnI now0 L SD) (hl : now0 ≤ now) (h0 : 0 ≤ now) {n : Nat} (hn : n < 7) (a : Ar) (ha : a.si = lip n) (hda : a.di = hostI) :
    (hd hostI a now L).ans = !a.ans ∧ (hd hostI a now L).may = [] ∧ LnI now (hd hostI a now L).L (fun q => if q = n then a.sm else SD q) ∧ fd (lip n) 5 now (hd hostI a now L).L = ⟨a.sm, [], false, 0, (hd hostI a now L).L⟩ := by
  have hok := h.ok.later hl
  have hokr := hok.hd h0 hostI a
  have nown : ¬ (eqI a.si hostI = true ∨ eqI a.si zI = true) := by
    rw [ha]
    intro e
    rcases e with e | e
    · have e : lip n = hostI := by simpa [eqI] using e
      unfold lip hostI at e
      simp at e
      omega
    · have e : lip n = zI := by simpa [eqI] using e
      unfold lip zI at e
      simp at e
  have dh : eqI a.di hostI = true := by rw [hda]; exact eqI_self _
  have fin : ∀ (L' : List Nb) (k : Nat) (y : Nb), (L'.map Nb.ip).Nodup → L'[k]? = some y → y.ip = lip n → y.st = 2 → y.since = now → y.mac = a.sm → fd (lip n) 5 now L' = ⟨a.sm, [], false, 0, L'⟩ := fun L' k y h1 h2 h3 h4 h5 h6 => by
    unfold fd
    rw [← h3, fndI_of h1 h2]
    simp only [h2]
    rw [if_neg (by omega), if_neg (by omega), h6]
  unfold hd at hokr ⊢
  rw [if_neg nown] at hokr ⊢
  cases hf : fndI a.si L with
  | some k =>
    obtain ⟨x, hx, hxi⟩ := fndI_spec hf
    rw [hf] at hokr
    simp only [hx] at hokr ⊢
    have hxm := List.mem_of_getElem? hx
    obtain ⟨hst, _⟩ := h.each x hxm
    refine ⟨by rw [dh, Bool.and_true], (h.ok.all x hxm).none (by omega), ⟨hokr, fun y hy => ?_⟩, ?_⟩
    · obtain ⟨j, hj⟩ := List.getElem?_of_mem hy
      rw [List.getElem?_set] at hj
      by_cases e : k = j
      · rw [if_pos e, if_pos (List.getElem?_eq_some_iff.1 hx).1] at hj
        cases hj
        exact ⟨rfl, n, hn, hxi.trans ha, by simp⟩
      · rw [if_neg e] at hj
        obtain ⟨h1, q, hq, h2, h3⟩ := h.each y (List.mem_of_getElem? hj)
        refine ⟨h1, q, hq, h2, ?_⟩
        have : q ≠ n := fun eq => by
          have h5 : fndI y.ip L = some j := fndI_of h.ok.ips hj
          rw [h2, eq, ← ha, hf] at h5
          exact e (Option.some.inj h5)
        simp only [if_neg this]
        exact h3
    · exact fin _ k { x with mac := a.sm, st := 2, since := now, tries := 0, pd := [] } hokr.ips (List.getElem?_set_self (List.getElem?_eq_some_iff.1 hx).1) (hxi.trans ha) rfl rfl rfl
  | none =>
    rw [hf] at hokr
    have h7 := h.len
    have hc : eqI a.di hostI = true ∧ L.length < 8 := ⟨dh, by omega⟩
    simp only [if_pos hc] at hokr ⊢
    refine ⟨by rw [dh, Bool.and_true], trivial, ⟨hokr, fun y hy => ?_⟩, ?_⟩
    · rcases List.mem_append.1 hy with hy | hy
      · obtain ⟨h1, q, hq, h2, h3⟩ := h.each y hy
        refine ⟨h1, q, hq, h2, ?_⟩
        have : q ≠ n := fun eq => fndI_not hf y hy (by rw [h2, eq, ha])
        simp only [if_neg this]
        exact h3
      · rw [List.mem_singleton.1 hy]
        exact ⟨rfl, n, hn, ha, by simp⟩
    · exact fin _ L.length ⟨a.si, 2, a.sm, now, now, 0, []⟩ hokr.ips (by simp) ha rfl rfl rfl
end Go.Proofs.Ytjaodjlgnclkhaa
