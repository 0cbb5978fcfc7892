
/-
  Package ip4: the contracts of sizeOf, areNoughts, options.
-/
import Derived.Test.YtiglejmmdghmgaaI4
namespace Go.Proofs.Ytiglejmmdghmgaa
open Go.RowKit Go.Shelf
attribute [local go_sem] Oper.semAt_some

/-- how many bytes belong to the option that they begin with -/
def szO (b : List Int) : Nat := if b[0]?.getD 0 = 0 then b.length else if b[0]?.getD 0 = 1 then 1 else if b.length < 2 then 0 else if b[1]?.getD 0 < 2 ∨ (b.length : Int) < b[1]?.getD 0 then 0 else (b[1]?.getD 0).toNat
theorem szO_le (b : List Int) (h : 0 < b.length) : szO b ≤ b.length := by
  unfold szO
  split
  · omega
  · split
    · omega
    · split
      · omega
      · split
        · omega
        · omega
/-- are options right? -/
def okO (b : List Int) : Bool :=
  if h : b.length = 0 then true else if b[0]?.getD 0 = 0 then b.all (fun x => decide (x = 0)) else if _hz : szO b = 0 then false else okO (b.drop (szO b))
termination_by b.length
decreasing_by
  rw [List.length_drop]
  omega
theorem okO_nil : okO [] = true := by rw [okO]; simp

set_option maxHeartbeats 1000000 in
theorem sizeOf_any (g off cap : Nat) (bs : List Int) (w : World) (hc : ∀ j, j < bs.length → w.cell? ⟨g, off + j, none⟩ = some (.int .u8 (bs[j]?.getD 0))) (hl : (bs.length : Int) ≤ 4611686018427387904) (h0 : 0 < bs.length) (hB : Bytes bs) :
    Calls Try.prog 45 #[.slice (some ⟨g, off, none⟩) bs.length cap] w fun e w' => e = .returned (.int .i64 (szO bs)) ∧ w' = w := by
  have x0 := hc 0 h0
  obtain ⟨X0, X1⟩ := hB.getD 0
  have SZ : Hid (szO bs = if bs[0]?.getD 0 = 0 then bs.length else if bs[0]?.getD 0 = 1 then 1 else if bs.length < 2 then 0 else if bs[1]?.getD 0 < 2 ∨ (bs.length : Int) < bs[1]?.getD 0 then 0 else (bs[1]?.getD 0).toNat) := rfl
  obtain ⟨z, hz⟩ : ∃ z, z = szO bs := ⟨_, rfl⟩
  rw [← hz] at SZ ⊢
  have x1 : 2 ≤ bs.length → w.cell? ⟨g, off + 1, none⟩ = some (.int .u8 (bs[1]?.getD 0)) := fun h => hc 1 (by omega)
  obtain ⟨Y0, Y1⟩ := hB.getD 1
  generalize bs[0]?.getD 0 = x at *
  generalize bs[1]?.getD 0 = y at *
  generalize bs.length = n at *
  simp only [Nat.add_zero] at x0
  have zn : (0 : Int) < (n : Int) := by omega
  have HX1 := hide x1
  clear hz hc x1 hB
  go_enter Try.func45, Try.ntmps45
  by_cases e0 : x = 0
  · have q0 : (x == 0) = true := by rw [e0]; rfl
    have E : Hid (z = n) := by unfold Hid; rw [SZ.out, if_pos e0]
    clear e0
    go_wp2
    go_ret
    exact ⟨ret_int (by rw [E.out]), rfl⟩
  · have q0 : (x == 0) = false := by simpa using e0
    by_cases e1 : x = 1
    · have q1 : (x == 1) = true := by rw [e1]; rfl
      have E : Hid (z = 1) := by unfold Hid; rw [SZ.out, if_neg e0, if_pos e1]
      clear e0 e1
      go_wp2
      go_ret
      exact ⟨ret_int (by rw [E.out]; rfl), rfl⟩
    · have q1 : (x == 1) = false := by simpa using e1
      by_cases e2 : n < 2
      · have zn2 : (n : Int) < 2 := by omega
        have E : Hid (z = 0) := by unfold Hid; rw [SZ.out, if_neg e0, if_neg e1, if_pos e2]
        clear e0 e1
        go_wp2
        go_ret
        exact ⟨ret_int (by rw [E.out]; rfl), rfl⟩
      · have zn2 : ¬ (n : Int) < 2 := by omega
        have zn3 : (1 : Int) < (n : Int) := by omega
        have y1 := HX1.out (by omega)
        by_cases e3 : y < 2
        · have E : Hid (z = 0) := by unfold Hid; rw [SZ.out, if_neg e0, if_neg e1, if_neg e2, if_pos (.inl e3)]
          clear e0 e1
          go_wp2
          go_ret
          exact ⟨ret_int (by rw [E.out]; rfl), rfl⟩
        · by_cases e4 : (n : Int) < y
          · have E : Hid (z = 0) := by unfold Hid; rw [SZ.out, if_neg e0, if_neg e1, if_neg e2, if_pos (.inr e4)]
            clear e0 e1
            go_wp2
            go_ret
            exact ⟨ret_int (by rw [E.out]; rfl), rfl⟩
          · have E : Hid (z = y.toNat) := by unfold Hid; rw [SZ.out, if_neg e0, if_neg e1, if_neg e2, if_neg (by omega)]
            clear e0 e1
            go_wp2
            go_ret
            exact ⟨ret_int (by rw [E.out]; omega), rfl⟩
set_option maxHeartbeats 1000000 in
theorem areNoughts_any (a : Option Addr) (cap : Nat) (bs : List Int) (w : World) (hc : 0 < bs.length → ∃ g off, a = some ⟨g, off, none⟩ ∧ ∀ j, j < bs.length → w.cell? ⟨g, off + j, none⟩ = some (.int .u8 (bs[j]?.getD 0))) (hl : (bs.length : Int) ≤ 4611686018427387904) :
    Calls Try.prog 38 #[.slice a bs.length cap] w fun e w' => e = .returned (.bool (bs.all fun x => decide (x = 0))) ∧ w' = w := by
  have HC := hide hc
  obtain ⟨r, hr⟩ : ∃ r, r = bs.all (fun x => decide (x = 0)) := ⟨_, rfl⟩
  rw [← hr]
  have HR := hide hr
  clear hc hr
  go_enter Try.func38, Try.ntmps38
  go_wp2
  go_loop [7] (fun v => ∃ i : Nat, v = .int .i64 (i : Int) ∧ i ≤ bs.length ∧ Hid (∀ j, j < i → bs[j]?.getD 0 = 0)) (fun v => bs.length - (intOf v).toNat)
  case atStart => exact ⟨0, rfl, Nat.zero_le _, fun j hj => by omega⟩
  case round =>
    obtain ⟨i, rfl, hi, hz⟩ := hrel
    by_cases hlt : i < bs.length
    · obtain ⟨g, off, rfl, hcs⟩ := HC.out (by omega)
      have x0 := hcs i hlt
      have zi : (i : Int) < (bs.length : Int) := by omega
      obtain ⟨x, hx⟩ : ∃ x, x = bs[i]?.getD 0 := ⟨_, rfl⟩
      rw [← hx] at x0
      have HX := hide hx
      clear hx hcs
      by_cases e0 : x = 0
      · have q0 : (x != 0) = false := by rw [e0]; rfl
        have HE := hide e0
        clear e0
        go_wp2
        go_round
        case rel =>
          refine ⟨i + 1, by go_num, hlt, fun j hj => ?_⟩
          by_cases e : j = i
          · rw [e, ← HX.out, HE.out]
          · exact hz.out j (by omega)
        case measure => simp [intOf]; omega
      · have q0 : (x != 0) = true := by simpa using e0
        have E : Hid (r = false) := by
          unfold Hid
          rw [HR.out, List.all_eq_false]
          refine ⟨x, ?_, by simpa using e0⟩
          rw [HX.out, List.getElem?_eq_getElem hlt]
          simp
        clear e0
        go_wp2
        go_ret
        exact ⟨by rw [E.out]; rfl, rfl⟩
    · obtain rfl : i = bs.length := by omega
      have zi : ¬ (bs.length : Int) < (bs.length : Int) := by omega
      have E : Hid (r = true) := by
        unfold Hid
        rw [HR.out, List.all_eq_true]
        intro x hx
        obtain ⟨j, hj, rfl⟩ := List.getElem_of_mem hx
        have := hz.out j hj
        rw [List.getElem?_eq_getElem hj] at this
        simpa using this
      go_wp2
      go_ret
      exact ⟨by rw [E.out]; rfl, rfl⟩
theorem options_in (n : Nat) (a : Option Addr) (len cap : Nat) (w : World) :
    CallsIn Fence.wide n Try.prog 37 #[.slice a len cap] w fun e w' => e = .returned (.func (.func 44) #[] #[.pointer (some ⟨w.heap.size, 0, none⟩)]) ∧ w' = w.alloc (.cells #[.slice a len cap] 24) := by
  refine callsIn_of_wp Try.func37 rfl trivial ?_ rfl
  simp only [Try.ntmps37, List.size_toArray, List.length_cons, List.length_nil, Nat.reduceAdd, Nat.reduceSub, Array.replicate_succ, Array.replicate_zero, List.push_toArray, List.append_toArray, List.nil_append, List.cons_append]
  gi_wp2
  go_ret
  exact ⟨rfl, rfl⟩
end Go.Proofs.Ytiglejmmdghmgaa
