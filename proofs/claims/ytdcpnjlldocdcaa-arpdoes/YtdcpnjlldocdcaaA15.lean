
/-
  Package arp in numbers: what each call answers and leaves, over the list of neighbours.
-/
import Derived.Test.YtdcpnjlldocdcaaA14
namespace Go.Proofs.Ytdcpnjlldocdcaa
open Go.RowKit

/-- the one that is let go when one more waits -/
def wtG (P : List Int) : List Int := if P.length < 2 then [] else P.take 1
/-- of the first k: the first one that may be taken out with the least 'since' -/
def old (L : List Nb) : Nat → Option Nat
  | 0 => none
  | k + 1 => match L[k]? with
    | none => old L k
    | some x => if x.st = 1 then old L k else match old L k with
      | none => some k
      | some j => if (L[j]?.map Nb.since).getD 0 ≤ x.since then some j else some k
/-- room for one more -/
def room (L : List Nb) : Option (List Nb) := if L.length < 8 then some L else (old L L.length).map (fun j => L.eraseIdx j)

structure FdR where
  mac : M6
  gone : List Int
  ask : Bool
  err : Int
  L : List Nb
def fd (ip : I4) (buf now : Int) (L : List Nb) : FdR := match fndI ip L with
  | none => match room L with
    | none => ⟨zM, [], false, 81, L⟩
    | some L' => ⟨zM, [], true, 80, L' ++ [⟨ip, 1, zM, now, now, 1, [buf]⟩]⟩
  | some k => match L[k]? with
    | none => ⟨zM, [], false, 0, L⟩
    | some x => if x.st = 1 then ⟨zM, wtG x.pd, false, 80, L.set k { x with pd := wtP x.pd buf }⟩
      else if x.st = 2 ∧ 64 ≤ now - x.since then ⟨x.mac, [], true, 0, L.set k { x with st := 3, asked := now, tries := 1 }⟩
      else ⟨x.mac, [], false, 0, L⟩
structure HdR where
  ans : Bool
  may : List Int
  mac : M6
  L : List Nb
def hd (ip : I4) (a : Ar) (now : Int) (L : List Nb) : HdR :=
  if eqI a.si ip = true ∨ eqI a.si zI = true then ⟨false, [], zM, L⟩ else match fndI a.si L with
  | some k => match L[k]? with
    | none => ⟨false, [], zM, L⟩
    | some x => ⟨!a.ans && eqI a.di ip, x.pd, if x.pd = [] then zM else a.sm, L.set k { x with mac := a.sm, st := 2, since := now, tries := 0, pd := [] }⟩
  | none => ⟨!a.ans && eqI a.di ip, [], zM, if eqI a.di ip = true ∧ L.length < 8 then L ++ [⟨a.si, 2, a.sm, now, now, 0, []⟩] else L⟩
/-- is nothing to be done for it? -/
def tkQ (now : Int) (x : Nb) : Bool := decide (x.st = 2) || !decide (2 ≤ now - x.asked)
def tk1 (now : Int) (x : Nb) : Option Nb := if tkQ now x = true then some x else if x.tries = 3 then none else some { x with tries := x.tries + 1, asked := now }
def tkA1 (now : Int) (x : Nb) : Option I4 := if tkQ now x = true then none else if x.tries = 3 then none else some x.ip
def tkG1 (now : Int) (x : Nb) : List Int := if tkQ now x = true then [] else if x.tries = 3 then x.pd else []
def tkL (now : Int) (L : List Nb) : List Nb := L.filterMap (tk1 now)
def tkA (now : Int) (L : List Nb) : List I4 := L.filterMap (tkA1 now)
def tkG (now : Int) (L : List Nb) : List Int := L.flatMap (tkG1 now)
def pnd (L : List Nb) : List Int := L.flatMap Nb.pd

/-- what holds of a neighbour at a tick -/
structure NOk (now : Int) (x : Nb) : Prop where
  since0 : 0 ≤ x.since
  since1 : x.since ≤ now
  asked0 : 0 ≤ x.asked
  asked1 : x.asked ≤ now
  st : x.st = 1 ∨ x.st = 2 ∨ x.st = 3
  tries0 : 0 ≤ x.tries
  tries1 : x.tries ≤ 3
  pd2 : x.pd.length ≤ 2
  none : x.st ≠ 1 → x.pd = []
structure LOk (now : Int) (L : List Nb) : Prop where
  len : L.length ≤ 8
  all : ∀ x ∈ L, NOk now x
  ips : (L.map Nb.ip).Nodup
theorem NOk.later {now n2 : Int} {x : Nb} (h : NOk now x) (hl : now ≤ n2) : NOk n2 x := { h with since1 := Int.le_trans h.since1 hl, asked1 := Int.le_trans h.asked1 hl }
theorem LOk.later {now n2 : Int} {L : List Nb} (h : LOk now L) (hl : now ≤ n2) : LOk n2 L := ⟨h.len, fun x hx => (h.all x hx).later hl, h.ips⟩
theorem LOk.nil (now : Int) : LOk now [] := ⟨by simp, (fun x hx => by cases hx), by simp⟩

theorem old_lt {L : List Nb} : ∀ k j, old L k = some j → j < k ∧ ∃ x, L[j]? = some x ∧ x.st ≠ 1
  | 0, j, h => by cases h
  | k + 1, j, h => by
    unfold old at h
    have hh := old_lt (L := L) k j
    split at h
    · obtain ⟨a, b⟩ := hh h; exact ⟨by omega, b⟩
    · rename_i x hx
      split at h
      · obtain ⟨a, b⟩ := hh h; exact ⟨by omega, b⟩
      · rename_i hs
        split at h
        · cases h; exact ⟨by omega, x, hx, hs⟩
        · rename_i j' hj'
          split at h
          · cases h; obtain ⟨a, b⟩ := hh hj'; exact ⟨by omega, b⟩
          · cases h; exact ⟨by omega, x, hx, hs⟩

theorem fndI_spec {ip : I4} {L : List Nb} {k : Nat} (h : fndI ip L = some k) : ∃ x, L[k]? = some x ∧ x.ip = ip := by
  unfold fndI at h
  rw [List.findIdx?_eq_some_iff_getElem] at h
  obtain ⟨hk, he, _⟩ := h
  exact ⟨_, List.getElem?_eq_getElem hk, by simpa [eqI] using he⟩
theorem fndI_not {ip : I4} {L : List Nb} (h : fndI ip L = none) : ∀ x ∈ L, x.ip ≠ ip := by
  unfold fndI at h
  rw [List.findIdx?_eq_none_iff] at h
  intro x hx
  have := h x hx
  simpa [eqI] using this

theorem LOk.set {now : Int} {L : List Nb} (h : LOk now L) {k : Nat} {x y : Nb} (hx : L[k]? = some x) (hi : y.ip = x.ip) (hy : NOk now y) : LOk now (L.set k y) := by
  refine ⟨by rw [List.length_set]; exact h.len, fun z hz => ?_, ?_⟩
  · rcases List.mem_or_eq_of_mem_set hz with hz | rfl
    · exact h.all z hz
    · exact hy
  · rw [List.map_set, hi]
    have : (L.map Nb.ip).set k x.ip = L.map Nb.ip := by
      refine List.ext_getElem? (fun j => ?_)
      rw [List.getElem?_set]
      split
      · rename_i e
        subst e
        rw [List.getElem?_map, hx]
        simp [(List.getElem?_eq_some_iff.1 hx).1]
      · rfl
    rw [this]; exact h.ips
theorem LOk.add {now : Int} {L : List Nb} (h : LOk now L) (hl : L.length < 8) {y : Nb} (hy : NOk now y) (hn : ∀ x ∈ L, x.ip ≠ y.ip) : LOk now (L ++ [y]) := by
  refine ⟨by simp; omega, fun z hz => ?_, ?_⟩
  · rcases List.mem_append.1 hz with hz | hz
    · exact h.all z hz
    · rw [List.mem_singleton.1 hz]; exact hy
  · rw [List.map_append, List.map_cons, List.map_nil, List.nodup_append]
    refine ⟨h.ips, by simp, fun a ha b hb => ?_⟩
    obtain ⟨x, hx, rfl⟩ := List.mem_map.1 ha
    rw [List.mem_singleton.1 hb]
    exact hn x hx
theorem LOk.erase {now : Int} {L : List Nb} (h : LOk now L) (j : Nat) : LOk now (L.eraseIdx j) :=
  ⟨Nat.le_trans (List.length_eraseIdx_le _ _) h.len, fun x hx => h.all x (List.mem_of_mem_eraseIdx hx), h.ips.sublist ((List.eraseIdx_sublist L j).map Nb.ip)⟩
theorem room_ok {now : Int} {L L' : List Nb} (h : LOk now L) (hr : room L = some L') : LOk now L' ∧ L'.length < 8 ∧ ∀ x ∈ L', x ∈ L := by
  unfold room at hr
  split at hr
  · cases hr; exact ⟨h, by assumption, fun _ h => h⟩
  · rename_i h8
    cases ho : old L L.length with
    | none => rw [ho] at hr; cases hr
    | some j =>
      rw [ho] at hr; cases hr
      have hj := (old_lt _ _ ho).1
      refine ⟨h.erase j, ?_, fun x hx => List.mem_of_mem_eraseIdx hx⟩
      rw [List.length_eraseIdx_of_lt hj]
      have := h.len
      omega
theorem LOk.fd {now : Int} {L : List Nb} (h : LOk now L) (h0 : 0 ≤ now) (ip : I4) (buf : Int) : LOk now (Go.Proofs.Ytdcpnjlldocdcaa.fd ip buf now L).L := by
  unfold Go.Proofs.Ytdcpnjlldocdcaa.fd
  split
  · rename_i hf
    split
    · exact h
    · rename_i L' hr
      obtain ⟨a, b, c⟩ := room_ok h hr
      exact a.add b ⟨h0, Int.le_refl _, h0, Int.le_refl _, .inl rfl, by simp, by simp, by simp, by simp⟩ (fun x hx => fndI_not hf x (c x hx))
  · split
    · exact h
    · rename_i x hx
      have hX := h.all x (List.mem_of_getElem? hx)
      split
      · rename_i hs
        refine h.set hx rfl { hX with pd2 := ?_, none := fun e => absurd hs e }
        have := hX.pd2
        show (wtP x.pd buf).length ≤ 2
        unfold wtP
        split <;> simp <;> omega
      · rename_i hs
        split
        · exact h.set hx rfl { hX with st := .inr (.inr rfl), asked0 := h0, asked1 := Int.le_refl _, tries0 := by simp, tries1 := by simp, none := fun _ => hX.none hs }
        · exact h
theorem LOk.hd {now : Int} {L : List Nb} (h : LOk now L) (h0 : 0 ≤ now) (ip : I4) (a : Ar) : LOk now (Go.Proofs.Ytdcpnjlldocdcaa.hd ip a now L).L := by
  unfold Go.Proofs.Ytdcpnjlldocdcaa.hd
  split
  · exact h
  · split
    · split
      · exact h
      · rename_i x hx
        have hX := h.all x (List.mem_of_getElem? hx)
        exact h.set hx rfl { hX with since0 := h0, since1 := Int.le_refl _, st := .inr (.inl rfl), tries0 := by simp, tries1 := by simp, pd2 := by simp, none := fun _ => rfl }
    · rename_i hf
      show LOk now (if _ then _ else _)
      split
      · rename_i hc
        exact h.add hc.2 ⟨h0, Int.le_refl _, h0, Int.le_refl _, .inr (.inl rfl), by simp, by simp, by simp, by simp⟩ (fun x hx => fndI_not hf x hx)
      · exact h
theorem tk1_ip {now : Int} {x y : Nb} (h : tk1 now x = some y) : y.ip = x.ip ∧ y.st = x.st ∧ y.pd = x.pd ∧ y.since = x.since ∧ y.mac = x.mac := by
  unfold tk1 at h
  split at h
  · cases h; exact ⟨rfl, rfl, rfl, rfl, rfl⟩
  · split at h
    · cases h
    · cases h; exact ⟨rfl, rfl, rfl, rfl, rfl⟩
theorem tk1_ok {now : Int} {x y : Nb} (h0 : 0 ≤ now) (hx : NOk now x) (h : tk1 now x = some y) : NOk now y := by
  unfold tk1 at h
  split at h
  · cases h; exact hx
  · split at h
    · cases h
    · rename_i ht
      cases h
      exact { hx with asked0 := h0, asked1 := Int.le_refl _, tries0 := by have := hx.tries0; show 0 ≤ x.tries + 1; omega, tries1 := by have := hx.tries1; show x.tries + 1 ≤ 3; omega }
theorem tkL_ips {now : Int} : ∀ (L : List Nb), ((tkL now L).map Nb.ip).Sublist (L.map Nb.ip)
  | [] => List.Sublist.refl _
  | x :: L => by
    unfold tkL
    rw [List.filterMap_cons]
    split
    · exact (tkL_ips L).cons _
    · rename_i y hy
      rw [List.map_cons, List.map_cons, (tk1_ip hy).1]
      exact (tkL_ips L).cons_cons _
theorem LOk.tk {now : Int} {L : List Nb} (h : LOk now L) (h0 : 0 ≤ now) : LOk now (tkL now L) :=
  ⟨Nat.le_trans (List.length_filterMap_le _ _) h.len, fun y hy => by
    obtain ⟨x, hx, he⟩ := List.mem_filterMap.1 hy
    exact tk1_ok h0 (h.all x hx) he, h.ips.sublist (tkL_ips L)⟩
end Go.Proofs.Ytdcpnjlldocdcaa
