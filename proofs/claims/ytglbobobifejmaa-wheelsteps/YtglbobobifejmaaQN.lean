
/-
  New, Due, Next, Now by the timers in the order in which they were armed.
-/
import Derived.Test.YtglbobobifejmaaQM
import Derived.Test.YtglbobobifejmaaQW4
namespace Go.Proofs.Ytglbobobifejmaa
open Go.RowKit

theorem Rel.new : Rel [] (fun _ => []) :=
  { home := fun _ _ _ h => nomatch h
    srt := fun _ _ => List.Pairwise.nil
    tick := fun _ _ => rfl
    count := by decide
    ids := fun _ _ => List.Pairwise.nil
    apart := fun _ _ _ _ _ _ h => nomatch h
    uniq := List.Pairwise.nil
    pos := fun _ h => nomatch h }

/-- when a timer is to come -/
def dueOf (L : List (Int × Int)) (id : Int) : Option Int := (L.find? (fun p => decide (p.1 = id))).map (·.2)
theorem find_of {L : List (Int × Int)} (hu : L.Pairwise (fun p q => p.1 ≠ q.1)) {id x : Int} (h : (id, x) ∈ L) : dueOf L id = some x := by
  induction L with
  | nil => cases h
  | cons p l ih =>
    rw [List.pairwise_cons] at hu
    unfold dueOf
    rcases List.mem_cons.1 h with e | h
    · subst e; simp
    · have : p.1 ≠ id := hu.1 _ h
      rw [List.find?_cons_of_neg (by simpa using this)]
      exact ih hu.2 h
theorem find_no {L : List (Int × Int)} {id : Int} (h : ∀ p ∈ L, p.1 ≠ id) : dueOf L id = none := by
  unfold dueOf
  rw [List.find?_eq_none.2 (fun p hp => by simpa using h p hp)]; rfl
/-- when the next timer comes -/
def LeastIs (L : List (Int × Int)) (r : Option Int) : Prop := (r = none → L = []) ∧ ∀ x, r = some x → (∃ p ∈ L, p.2 = x) ∧ ∀ p ∈ L, x ≤ p.2
theorem LeastIs.same {L : List (Int × Int)} {r r' : Option Int} (h : LeastIs L r) (k : LeastIs L r') : r = r' := by
  cases r with
  | none =>
    cases r' with
    | none => rfl
    | some y =>
      obtain ⟨⟨p, hp, _⟩, _⟩ := k.2 y rfl
      rw [h.1 rfl] at hp; cases hp
  | some x =>
    obtain ⟨⟨p, hp, ep⟩, hx⟩ := h.2 x rfl
    cases r' with
    | none => rw [k.1 rfl] at hp; cases hp
    | some y =>
      obtain ⟨⟨q, hq, eq⟩, hy⟩ := k.2 y rfl
      have h1 := hx q hq
      have h2 := hy p hp
      exact congrArg some (by omega)

section
variable {ρ : Nat → Nat} {w : World} {b : Nat} {now : Int} {L : List (Int × Int)}
theorem due_any (h : Wh ρ w b now L) (id : Int) : Calls Try.prog 15 #[.pointer (some ⟨b, 0, none⟩), .int .i64 id] w fun e w' => e = .returned (.tuple #[.int .i64 ((dueOf L id).getD 0), .bool (dueOf L id).isSome]) ∧ Wh ρ w' b now L ∧ Below w.heap.size w w' := by
  obtain ⟨V, SL, hW, hR, hl⟩ := h
  refine (wDue_any hW id).mono ?_
  rintro e w' ⟨r, rfl, hd, hb⟩
  have er : dueOf L id = r := by
    cases r with
    | none => exact find_no (hR.none (fun s hs p hp => hd.1 rfl s hs p hp))
    | some x =>
      obtain ⟨s, hs, hm⟩ := hd.2 x rfl
      exact find_of hR.uniq (hR.of_slot hs hm)
  rw [er]
  exact ⟨rfl, ⟨V, SL, hW.later hb, hR, hl⟩, hb⟩
theorem next_any (h : Wh ρ w b now L) : Calls Try.prog 20 #[.pointer (some ⟨b, 0, none⟩)] w fun e w' => ∃ r, e = .returned (.tuple #[.int .i64 (r.getD 0), .bool r.isSome]) ∧ LeastIs L r ∧ w' = w := by
  obtain ⟨V, SL, hW, hR, hl⟩ := h
  refine (wNext_any hW).mono ?_
  rintro e w' ⟨r, rfl, hd, rfl⟩
  refine ⟨r, rfl, ⟨fun hr => ?_, fun x hx => ?_⟩, rfl⟩
  · have hz := hd.1 hr
    cases L with
    | nil => rfl
    | cons p l =>
      have := (hR.to_slot (p := p) (List.mem_cons_self ..)).2
      rw [hz _ (t64 _ (hR.pos p (List.mem_cons_self ..)))] at this
      cases this
  · obtain ⟨⟨s, p, hs, hp, ex⟩, hm⟩ := hd.2 x hx
    refine ⟨⟨p, hR.of_slot hs (List.mem_of_getElem? hp), ex⟩, fun q hq => ?_⟩
    have hs2 := t64 _ (hR.pos q hq)
    have hq2 := (hR.to_slot hq).2
    cases e0 : SL (q.2 % 64).toNat with
    | nil => rw [e0] at hq2; cases hq2
    | cons p0 l0 =>
      have h1 := hm _ p0 hs2 (by rw [e0]; rfl)
      have h2 := hR.srt _ hs2
      rw [e0, List.pairwise_cons] at h2
      rw [e0] at hq2
      rcases List.mem_cons.1 hq2 with e | e
      · rw [e]; exact h1
      · have := h2.1 q e; omega
theorem now_any (h : Wh ρ w b now L) : Calls Try.prog 22 #[.pointer (some ⟨b, 0, none⟩)] w fun e w' => e = .returned (.int .i64 now) ∧ w' = w := by
  obtain ⟨V, SL, hW, _⟩ := h
  exact wNow_any hW
end

/-- NEW -/
def neBad (now : Int) : Bool := decide (now < 0) || decide (1099511627776 < now)
def NewEnd (w : World) (now : Int) (e : Ending) (w' : World) : Prop :=
  (neBad now = true ∧ e = .returned (.tuple #[.pointer none, .int .i64 1]) ∧ w' = w) ∨
  (neBad now = false ∧ e = .returned (.tuple #[.pointer (some ⟨w.heap.size, 0, none⟩), .int .i64 0]) ∧ Wh (fun g => if g = w.heap.size then 1 else 0) w' w.heap.size now [] ∧ Below w.heap.size w w')
theorem new_wh (w : World) (now : Int) (w' : World) (xs : Array Value) (e : TypeId) (hw : w' = w.alloc (.cells xs e)) (h0 : xs[0]? = some (.int .i64 now)) (hx : ∀ s, s < 64 → xs[1 + s]? = some (.slice none 0 0)) : Wh (fun g => if g = w.heap.size then 1 else 0) w' w.heap.size now [] := by
  subst hw
  have hc : ∀ i, (w.alloc (.cells xs e)).cell? ⟨w.heap.size, i, none⟩ = xs[i]? := fun i => cell_of_row _ w.heap.size i xs e (0, 0) (heap_alloc_new w _)
  refine ⟨fun _ => .slice none 0 0, fun _ => [], ⟨fun g hg => ?_, if_pos rfl, (hc 0).trans h0, fun s hs => (hc (1 + s)).trans (hx s hs), fun s hs => World.ownsRow_nil _ _ _ _, fun s hs k hk => (by cases hk), fun i => ?_, fun s hs => Nat.zero_le _⟩, Rel.new, Nat.zero_le _⟩
  · have hg : (if g = w.heap.size then 1 else 0) ≠ 0 := hg
    split at hg
    · rename_i e; rw [World.size_alloc]; omega
    · exact absurd rfl hg
  · exact frozen_of_row _ w.heap.size i xs e (heap_alloc_new w _)
def zc5 (i : Nat) : Value := if i = 0 then .int .i64 0 else .slice none 0 0
theorem zeroW (w : World) : Sem.run Try.prog (zeroValue 57) w = .ok (.agg ((List.range 65).map zc5).toArray) w := by kernel_rfl
set_option maxRecDepth 100000 in
set_option maxHeartbeats 4000000 in
theorem new_any (w : World) (now : Int) : Calls Try.prog 8 #[.int .i64 now] w (NewEnd w now) := by
  obtain ⟨bd, hbd⟩ : ∃ B, neBad now = B := ⟨_, rfl⟩
  have EB := hide hbd
  have BB := hide (show bd = (decide (now < 0) || decide (1099511627776 < now)) from hbd.symm)
  clear hbd
  obtain ⟨Z, hZ⟩ : ∃ Z : Array Value, Z = ((List.range 65).map zc5).toArray := ⟨_, rfl⟩
  have hz := zeroW
  rw [← hZ] at hz
  have hs : Z.size = 65 := by rw [hZ]; rfl
  have hne : ¬ Z = #[] := fun e => by rw [e] at hs; cases hs
  have HZ := hide hZ
  clear hZ
  go_enter Try.func8, Try.ntmps8
  go_upto_region 1 with fail
  go_cut [9] (fun c wc => c = .bool bd ∧ w = wc)
  case first =>
    by_cases h1 : now < 0
    · go_wp2
      go_meet
      case rel => exact ⟨by rw [BB.out, decide_eq_true h1]; simp, rfl⟩
    · go_wp2
      go_meet
      case rel => exact ⟨by rw [BB.out, decide_eq_false (show ¬ now < 0 by omega)]; simp, rfl⟩
  case rest =>
    obtain ⟨rfl, hw⟩ := hcut
    subst hw
    cases bd
    · go_wp2
      go_ret2
      refine .inr ⟨EB.out, rfl, new_wh w now _ _ _ rfl (by rw [Array.getElem?_setIfInBounds_self_of_lt (by omega)]) (fun s hs => ?_), (Below.refl _ w).alloc (Nat.le_refl _) _⟩
      rw [Array.getElem?_setIfInBounds_ne (by omega), HZ.out, List.getElem?_toArray, List.getElem?_map, List.getElem?_range (by omega)]
      show some (if _ then _ else _) = _
      rw [if_neg (by omega)]
    · have FIN : Hid (NewEnd w now (.returned (.tuple #[.pointer none, .int .i64 1])) w) := .inl ⟨EB.out, rfl, rfl⟩
      go_wp2
      go_ret2
      exact FIN.out
end Go.Proofs.Ytglbobobifejmaa
