/-
  A slice of bytes as a string; the parts of a variadic call; the chapter's examples (awake).
-/
import Derived.Test.YtneolboegjjfbaaSum
namespace Go.Proofs.Ytneolboegjjfbaa
open Go.RowKit

/-- the string of these bytes -/
def strB (bs : List Int) : ByteArray := bs.foldl (fun r n => r.push (UInt8.ofNat n.toNat)) ByteArray.empty

theorem conv_str {n₀ : Nat} {W : World} {v : Value} {bs : List Int} (h : IsB n₀ W v bs) : (convert 22 9 v).run Try.prog W = .ok (.string (strB bs)) W := by
  obtain ⟨a, cap, rfl, hl, hn, hc⟩ := h
  rw [run_convert_bytes_string (P := Try.prog) W 22 9 5 a bs.length cap Try.underlying22 Try.underlying5 Try.underlying9]
  cases a with
  | none =>
    have h0 := hn rfl
    have : bs = [] := List.eq_nil_of_length_eq_zero (by omega)
    subst this
    rfl
  | some ad =>
    refine run_bytesToString W ad bs.length cap bs ?_
    have := run_loadCells_list (P := Try.prog) W ad (bs.map (Value.int .u8)) (fun j v hv => by
      have hj : j < bs.length := by have := (List.getElem?_eq_some_iff.1 hv).1; simpa using this
      obtain ⟨b, off, e, _, hcs⟩ := hc (by omega)
      cases e
      rw [Addr.add_lit, hcs j hj]
      simp only [List.getElem?_map, List.getElem?_eq_getElem hj, Option.map_some, Option.some.injEq] at hv
      simp [List.getElem?_eq_getElem hj, hv])
    simpa using this

theorem OwnB.isB {B : Nat} {W : World} {v : Value} {bs : List Int} (h : OwnB B W v bs) : IsB W.heap.size W v bs := by
  obtain ⟨g, rfl, hg, hh⟩ := h
  refine ⟨_, _, rfl, Nat.le_refl _, (fun e => by cases e), fun _ => ⟨g, 0, rfl, (Array.getElem?_eq_some_iff.1 hh).1, fun j hj => ?_⟩⟩
  rw [Nat.zero_add, cell_of_row _ g j _ 5 (0, 0) hh]
  simp [hj]
theorem OwnB.below {B n : Nat} {A W : World} {v : Value} {bs : List Int} (h : OwnB B A v bs) (hb : Below n A W) (hn : A.heap.size ≤ n) : OwnB B W v bs := by
  obtain ⟨g, rfl, hg, hh⟩ := h
  have hlt := (Array.getElem?_eq_some_iff.1 hh).1
  exact ⟨g, rfl, hg, by rw [hb.block g (by omega)]; exact hh⟩

theorem later_alloc (w : World) (o : Obj) : Below w.heap.size w (w.alloc o) := (Below.refl _ w).alloc (Nat.le_refl _) o
theorem later {a b c : World} (h : Below a.heap.size a b) (k : Below b.heap.size b c) : Below a.heap.size a c := h.trans (k.mono h.size)
theorem IsB.later {A B : World} {v : Value} {bs : List Int} (hb : IsB A.heap.size A v bs) (h : Below A.heap.size A B) : IsB B.heap.size B v bs := (hb.below h).mono h.size

/-- the parts of a variadic call lie in a new block -/
theorem IsP_new {W : World} (vs : List Value) (ps : List (List Int)) (hl : vs.length = ps.length) (h : ∀ j, j < vs.length → IsB W.heap.size W (vs[j]?.getD undef) (ps[j]?.getD [])) :
    IsP (W.heap.size + 1) (W.alloc (.cells vs.toArray 22)) (.slice (some ⟨W.heap.size, 0, none⟩) vs.length vs.length) ps := by
  refine ⟨_, _, vs, rfl, hl, fun _ => ⟨W.heap.size, 0, rfl, by omega, fun j hj => ?_⟩, fun j hj => ?_⟩
  · rw [Nat.zero_add, cell_of_row _ W.heap.size j vs.toArray 22 (0, 0) (heap_alloc_new W _)]
    simp [hj]
  · exact ((h j hj).below ((Below.refl _ W).alloc (Nat.le_refl _) _)).mono (by omega)

theorem Small_of {ps : List (List Int)} (hl : (ps.length : Int) ≤ 4611686018427387904) (h : ∀ bs ∈ ps, Bytes bs) (hto : (ps.flatten.length : Int) ≤ 562949953421300) : Small ps := by
  refine ⟨hl, fun bs hb => ⟨h bs hb, ?_⟩⟩
  have : bs.length ≤ ps.flatten.length := (List.sublist_flatten_of_mem hb).length_le
  omega

theorem Sum1 (v : Value) (bs : List Int) (w : World) (h : IsB w.heap.size w v bs) (hB : Bytes bs) (hto : (bs.length : Int) ≤ 562949953421300) :
    Calls Try.prog 17 #[.slice (some ⟨w.heap.size, 0, none⟩) 1 1] (w.alloc (.cells #[v] 22)) fun e W' => e = .returned (.int .i64 (csum bs)) ∧ Below w.heap.size w W' := by
  have hf : [bs].flatten = bs := by simp
  have hp : IsP (w.alloc (.cells #[v] 22)).heap.size (w.alloc (.cells #[v] 22)) (.slice (some ⟨w.heap.size, 0, none⟩) 1 1) [bs] := by
    rw [World.size_alloc]
    exact IsP_new [v] [bs] rfl (fun j hj => by
      have : j = 0 := by simp at hj; omega
      subst this
      exact h)
  have := Sum_any _ [bs] (Small_of (by simp) (by simpa using hB) (by rw [hf]; exact hto)) (by rw [hf]; exact hto) _ hp
  rw [hf, World.size_alloc] at this
  exact this.mono fun e W' ⟨he, hb⟩ => ⟨he, (later_alloc w _).trans (hb.mono (by omega))⟩

theorem At16_lit (bs : List Int) (at_ : Int) (w : World) (hB : Bytes bs) (hl : (bs.length : Int) ≤ 4611686018427387904) (h1 : at_ ≤ 9223372036854775807) :
    Calls Try.prog 14 #[.slice (some ⟨w.heap.size, 0, none⟩) bs.length bs.length, .int .i64 at_] (w.alloc (.cells (bs.map (Value.int .u8)).toArray 5)) fun e w' =>
      e = .returned (.tuple #[.int .i64 (rd16 bs at_), .int .i64 (errOf bs at_ 2)]) ∧ Below w.heap.size w w' := by
  refine (At16_any _ bs at_ (w.alloc (.cells (bs.map (Value.int .u8)).toArray 5)) (by rw [World.size_alloc]; exact IsB_new bs (by omega)) hB hl h1).mono ?_
  rintro e w' ⟨he, hb⟩
  exact ⟨he, (later_alloc w _).trans (hb.mono (by simp))⟩

set_option maxHeartbeats 1000000 in
theorem awake_any (w : World) : Calls Try.prog 9 #[] w fun e w' => e = .returned (.bool true) ∧ Below w.heap.size w w' := by
  go_enter Try.func9, Try.ntmps9
  go_wp2_with fail
  refine (Put16_any _ [] 70000 _ (IsB.nil _ _) (by simp)).mono ?_
  rintro e w1 ⟨v1, rfl, o1, b1⟩
  go_wp2_with fail
  refine (Put32_any _ [] 258 (by omega) (by omega) _ (IsB.nil _ _) (by simp)).mono ?_
  rintro e w2 ⟨v2, rfl, o2, b2⟩
  have s1 := o1.isB.later b2
  have s2 := o2.isB
  have b3 := later b1 b2
  clear o1 o2 b1 b2
  go_wp2_with fail
  refine (At16_lit [1, 2, 3] 1 w2 (by intro x hx; simp at hx; omega) (by simp) (by omega)).mono ?_
  rintro e w3 ⟨rfl, b4⟩
  rw [show rd16 [1, 2, 3] 1 = 515 from by decide, show errOf [1, 2, 3] 1 2 = 0 from by decide]
  replace s1 := s1.later b4
  replace s2 := s2.later b4
  replace b3 := later b3 b4
  clear b4
  go_wp2_with fail
  refine (At16_lit [1, 2, 3] 2 w3 (by intro x hx; simp at hx; omega) (by simp) (by omega)).mono ?_
  rintro e w4 ⟨rfl, b4⟩
  rw [show rd16 [1, 2, 3] 2 = 0 from by decide, show errOf [1, 2, 3] 2 2 = 3 from by decide]
  replace s1 := s1.later b4
  replace s2 := s2.later b4
  replace b3 := later b3 b4
  clear b4
  have c1 := conv_str s1
  have c2 := conv_str s2
  rw [show strB ([] ++ put16 70000) = { data := #[17, 112] } from by decide] at c1
  rw [show strB ([] ++ put32 258) = { data := #[0, 0, 1, 2] } from by decide] at c2
  clear s1 s2
  have S1 := Sum1 (.slice (some ⟨w4.heap.size, 0, none⟩) 2 2) [0, 1] (w4.alloc (.cells #[.int .u8 0, .int .u8 1] 5)) (by rw [World.size_alloc]; exact IsB_new [0, 1] (by omega)) (by intro x hx; simp at hx; omega) (by simp)
  rw [World.size_alloc, show csum [0, 1] = 65534 from by decide] at S1
  have HS := hide S1
  clear S1
  go_wp2_with fail
  refine (unhide HS).mono ?_
  rintro e w5 ⟨rfl, b5⟩
  clear HS c1 c2
  replace b3 := later (later b3 (later_alloc _ _)) (by rw [World.size_alloc]; exact b5)
  clear b5
  go_wp2_with fail
  refine (Patch_any _ _ _ _).mono ?_
  rintro e w6 ⟨rfl, rfl⟩
  rw [show patchI 65534 1 2 = 65533 from by decide]
  go_wp2
  go_ret
  exact ⟨rfl, b3⟩

end Go.Proofs.Ytneolboegjjfbaa
