
/-
  ArpOnce, in numbers.
-/
import Derived.Test.YtjaodjlgnclkhaaA35
namespace Go.Proofs.Ytjaodjlgnclkhaa
open Go.RowKit Go.Shelf

def lp (d : Int) : I4 := ⟨10, 0, 0, d⟩
/-- f, but at q: v -/
def at1 {α : Type} (f : Nat → α) (q : Nat) (v : α) : Nat → α := fun k => if k = q then v else f k
theorem at1_same {α : Type} (f : Nat → α) (q : Nat) (v : α) : at1 f q v q = v := if_pos rfl
theorem at1_ne {α : Type} (f : Nat → α) {q k : Nat} (v : α) (h : k ≠ q) : at1 f q v k = f k := if_neg h

/-- what holds of packets that are numbered: those of T are to be told -/
structure OnM (len : Nat) (now : Int) (n : Nat) (WH WN : Nat → Int) (TD : Nat → Bool) (L : List Nb) (T : List Int) : Prop where
  ok : LOk now L
  hi : ∀ q, n ≤ q → TD q = false
  ip : ∀ x ∈ L, x.ip = lp x.ip.d
  srt : ∀ x ∈ L, x.pd.Pairwise (· < ·)
  pd : ∀ x ∈ L, ∀ p ∈ x.pd, ∃ q : Nat, p = (q : Int) ∧ q < n ∧ TD q = false ∧ WH q = x.ip.d ∧ x.since ≤ WN q
  tn : T.Nodup
  t : ∀ p ∈ T, ∃ q : Nat, p = (q : Int) ∧ q < n ∧ TD q = false ∧ ∀ x ∈ L, p ∉ x.pd
  all : ∀ q : Nat, q < n → TD q = false → (q : Int) ∈ T ∨ ∃ x ∈ L, (q : Int) ∈ x.pd
  ask : ∀ x ∈ L, x.st = 1 → 1 ≤ x.tries ∧ x.asked = x.since + 2 * (x.tries - 1) ∧ x.since < len ∧ now - x.asked < 2
  mac : ∀ x ∈ L, x.st ≠ 1 → x.mac.a = 4
section
variable {len : Nat} {now : Int} {n : Nat} {WH WN : Nat → Int} {TD : Nat → Bool} {L : List Nb} {T : List Int}
theorem same_nb (h : (L.map Nb.ip).Nodup) {x y : Nb} (hx : x ∈ L) (hy : y ∈ L) (e : x.ip = y.ip) : x = y := by
  obtain ⟨k, hk⟩ := List.getElem?_of_mem hx
  obtain ⟨j, hj⟩ := List.getElem?_of_mem hy
  have h1 := fndI_of h hk
  have h2 := fndI_of h hj
  rw [e, h2] at h1
  cases h1
  rw [hk] at hj
  exact Option.some.inj hj
theorem OnM.apart (h : OnM len now n WH WN TD L T) {x y : Nb} (hx : x ∈ L) (hy : y ∈ L) {p : Int} (h1 : p ∈ x.pd) (h2 : p ∈ y.pd) : x = y := by
  obtain ⟨q, e1, _, _, w1, _⟩ := h.pd x hx p h1
  obtain ⟨q', e2, _, _, w2, _⟩ := h.pd y hy p h2
  obtain rfl : q = q' := by omega
  refine same_nb h.ok.ips hx hy ?_
  rw [h.ip x hx, h.ip y hy, ← w1, ← w2]
theorem OnM.nil (len : Nat) (WH WN : Nat → Int) : OnM len (-1) 0 WH WN (fun _ => false) [] [] :=
  ⟨LOk.nil _, fun _ _ => rfl, (fun x hx => by cases hx), (fun x hx => by cases hx), (fun x hx => by cases hx), List.nodup_nil, (fun x hx => by cases hx), (fun q hq => by omega), (fun x hx => by cases hx), (fun x hx => by cases hx)⟩
theorem OnM.one (h : OnM len now n WH WN TD L T) {x : Nb} (hx : x ∈ L) {p : Int} (hp : p ∈ x.pd) : x.st = 1 := by
  by_cases e : x.st = 1
  · exact e
  · rw [(h.ok.all x hx).none e] at hp
    cases hp

theorem OnM.tick (h : OnM len now n WH WN TD L []) (h0 : 0 ≤ now + 1) : OnM len (now + 1) n WH WN TD (tkL (now + 1) L) (tkG (now + 1) L) := by
  have mem : ∀ y ∈ tkL (now + 1) L, ∃ x ∈ L, tk1 (now + 1) x = some y := fun y hy => List.mem_filterMap.1 hy
  have memG : ∀ p ∈ tkG (now + 1) L, ∃ x ∈ L, p ∈ x.pd ∧ tk1 (now + 1) x = none := fun p hp => by
    obtain ⟨x, hx, hp⟩ := List.mem_flatMap.1 hp
    refine ⟨x, hx, ?_⟩
    unfold tkG1 at hp
    unfold tk1
    split at hp
    · cases hp
    · rename_i h1
      split at hp
      · rename_i h2
        rw [if_neg h1, if_pos h2]
        exact ⟨hp, rfl⟩
      · cases hp
  refine ⟨(h.ok.later (by omega)).tk h0, h.hi, fun y hy => ?_, fun y hy => ?_, fun y hy p hp => ?_, ?_, fun p hp => ?_, fun q hq hT => ?_, fun y hy hs => ?_, fun y hy hs => ?_⟩
  · obtain ⟨x, hx, e⟩ := mem y hy
    rw [(tk1_ip e).1]
    exact h.ip x hx
  · obtain ⟨x, hx, e⟩ := mem y hy
    rw [(tk1_ip e).2.2.1]
    exact h.srt x hx
  · obtain ⟨x, hx, e⟩ := mem y hy
    obtain ⟨e1, e2, e3, e4, e5⟩ := tk1_ip e
    rw [e3] at hp
    rw [e1, e4]
    exact h.pd x hx p hp
  · unfold List.Nodup tkG
    rw [List.pairwise_flatMap]
    refine ⟨fun x hx => ?_, ?_⟩
    · unfold tkG1
      split
      · exact List.Pairwise.nil
      · split
        · exact (h.srt x hx).imp (fun {a b} hab e => by omega)
        · exact List.Pairwise.nil
    · have hp := h.ok.ips
      unfold List.Nodup at hp
      rw [List.pairwise_map] at hp
      refine hp.imp_of_mem (fun {x y} hx hy hne p h1 p' h2 e => hne ?_)
      subst e
      have sub : ∀ z : Nb, p ∈ tkG1 (now + 1) z → p ∈ z.pd := fun z hz => by
        unfold tkG1 at hz
        split at hz
        · cases hz
        · split at hz
          · exact hz
          · cases hz
      rw [h.apart hx hy (sub x h1) (sub y h2)]
  · obtain ⟨x, hx, hpx, hn⟩ := memG p hp
    obtain ⟨q, e1, e2, e3, _⟩ := h.pd x hx p hpx
    refine ⟨q, e1, e2, e3, fun y hy hpy => ?_⟩
    obtain ⟨x', hx', e⟩ := mem y hy
    rw [(tk1_ip e).2.2.1] at hpy
    rw [h.apart hx' hx hpy hpx, hn] at e
    cases e
  · rcases h.all q hq hT with hh | ⟨x, hx, hp⟩
    · cases hh
    · cases e : tk1 (now + 1) x with
      | some y => exact .inr ⟨y, List.mem_filterMap.2 ⟨x, hx, e⟩, by rw [(tk1_ip e).2.2.1]; exact hp⟩
      | none =>
        refine .inl (List.mem_flatMap.2 ⟨x, hx, ?_⟩)
        unfold tk1 at e
        unfold tkG1
        split at e
        · cases e
        · rename_i h1
          rw [if_neg h1]
          split at e
          · rename_i h2
            rw [if_pos h2]
            exact hp
          · cases e
  · obtain ⟨x, hx, e⟩ := mem y hy
    obtain ⟨e1, e2, e3, e4, e5⟩ := tk1_ip e
    have hA := h.ask x hx (by rw [← e2]; exact hs)
    have hN := h.ok.all x hx
    rw [e4]
    unfold tk1 at e
    split at e
    · rename_i hq
      cases e
      unfold tkQ at hq
      simp only [Bool.or_eq_true, decide_eq_true_eq, Bool.not_eq_true', decide_eq_false_iff_not] at hq
      exact ⟨hA.1, hA.2.1, hA.2.2.1, by omega⟩
    · rename_i hq
      split at e
      · cases e
      · cases e
        unfold tkQ at hq
        simp only [Bool.or_eq_true, decide_eq_true_eq, Bool.not_eq_true', decide_eq_false_iff_not, not_or] at hq
        refine ⟨?_, ?_, hA.2.2.1, ?_⟩
        · show 1 ≤ x.tries + 1
          omega
        · show now + 1 = x.since + 2 * (x.tries + 1 - 1)
          omega
        · show now + 1 - (now + 1) < 2
          omega
  · obtain ⟨x, hx, e⟩ := mem y hy
    obtain ⟨e1, e2, e3, e4, e5⟩ := tk1_ip e
    rw [e5]
    exact h.mac x hx (by rw [← e2]; exact hs)

theorem mem_set {L : List Nb} {k : Nat} {x y : Nb} (hk : L[k]? = some x) {z : Nb} (hz : z ∈ L) : z = x ∨ z ∈ L.set k y := by
  obtain ⟨j, hj⟩ := List.getElem?_of_mem hz
  by_cases e : k = j
  · subst e
    rw [hk] at hj
    exact .inl (Option.some.inj hj).symm
  · refine .inr (List.mem_of_getElem? (i := j) ?_)
    rw [List.getElem?_set, if_neg e]
    exact hj
theorem mem_set_new {L : List Nb} {k : Nat} {x y : Nb} (hk : L[k]? = some x) : y ∈ L.set k y := by
  refine List.mem_of_getElem? (i := k) ?_
  rw [List.getElem?_set, if_pos rfl, if_pos (List.getElem?_eq_some_iff.1 hk).1]
theorem set_other {L : List Nb} (hn : (L.map Nb.ip).Nodup) {k : Nat} {x y : Nb} (hk : L[k]? = some x) {z : Nb} (hz : z ∈ L.set k y) : z = y ∨ (z ∈ L ∧ z ≠ x) := by
  obtain ⟨j, hj⟩ := List.getElem?_of_mem hz
  rw [List.getElem?_set] at hj
  by_cases e : k = j
  · rw [if_pos e, if_pos (List.getElem?_eq_some_iff.1 hk).1] at hj
    exact .inl (Option.some.inj hj).symm
  · rw [if_neg e] at hj
    refine .inr ⟨List.mem_of_getElem? hj, fun ez => e ?_⟩
    have h1 := fndI_of hn hk
    have h2 := fndI_of hn hj
    rw [ez, h1] at h2
    exact Option.some.inj h2
theorem room_keeps {L L' : List Nb} (hr : room L = some L') {x : Nb} (hx : x ∈ L) : x ∈ L' ∨ x.st ≠ 1 := by
  unfold room at hr
  split at hr
  · cases hr; exact .inl hx
  · cases ho : old L L.length with
    | none => rw [ho] at hr; cases hr
    | some j =>
      rw [ho] at hr; cases hr
      obtain ⟨_, y, hy, hs⟩ := old_lt _ _ ho
      obtain ⟨i, hi⟩ := List.getElem?_of_mem hx
      by_cases e : i = j
      · subst e
        rw [hy] at hi
        cases hi
        exact .inr hs
      · refine .inl (List.mem_eraseIdx_iff_getElem?.2 ⟨i, e, hi⟩)

/-- one neighbour is turned: no packet of its is lost but to T -/
theorem OnM.turn (h : OnM len now n WH WN TD L T) {k : Nat} {x y : Nb} (hk : L[k]? = some x) (hi : y.ip = x.ip) (hok : NOk now y) (hs : y.pd = x.pd) (hsi : y.since ≤ x.since ∨ y.pd = []) (hA : y.st = 1 → 1 ≤ y.tries ∧ y.asked = y.since + 2 * (y.tries - 1) ∧ y.since < len ∧ now - y.asked < 2) (hM : y.st ≠ 1 → y.mac.a = 4) : OnM len now n WH WN TD (L.set k y) T := by
  have hx := List.mem_of_getElem? hk
  have back : ∀ z ∈ L.set k y, z = y ∨ z ∈ L := fun z hz => (List.mem_or_eq_of_mem_set hz).symm
  refine ⟨h.ok.set hk hi hok, h.hi, fun z hz => ?_, fun z hz => ?_, fun z hz p hp => ?_, h.tn, fun p hp => ?_, fun q hq hT => ?_, fun z hz hs1 => ?_, fun z hz hs1 => ?_⟩
  · rcases back z hz with rfl | hz
    · rw [hi]; exact h.ip x hx
    · exact h.ip z hz
  · rcases back z hz with rfl | hz
    · rw [hs]; exact h.srt x hx
    · exact h.srt z hz
  · rcases back z hz with rfl | hz
    · rw [hs] at hp
      obtain ⟨q, e1, e2, e3, e4, e5⟩ := h.pd x hx p hp
      refine ⟨q, e1, e2, e3, by rw [hi]; exact e4, ?_⟩
      rcases hsi with e | e
      · omega
      · rw [hs] at e
        rw [e] at hp
        cases hp
    · exact h.pd z hz p hp
  · obtain ⟨q, e1, e2, e3, e4⟩ := h.t p hp
    refine ⟨q, e1, e2, e3, fun z hz => ?_⟩
    rcases back z hz with rfl | hz
    · rw [hs]; exact e4 x hx
    · exact e4 z hz
  · rcases h.all q hq hT with e | ⟨z, hz, hp⟩
    · exact .inl e
    · rcases mem_set (y := y) hk hz with rfl | hz
      · exact .inr ⟨y, mem_set_new hk, by rw [hs]; exact hp⟩
      · exact .inr ⟨z, hz, hp⟩
  · rcases back z hz with rfl | hz
    · exact hA hs1
    · exact h.ask z hz hs1
  · rcases back z hz with rfl | hz
    · exact hM hs1
    · exact h.mac z hz hs1
end
end Go.Proofs.Ytjaodjlgnclkhaa
