
/-
  Contracts of package pool: Left, New, Get.
-/
import Derived.Test.YtjkfjijnjkpbbaaK1
namespace Go.Proofs.Ytjkfjijnjkpbbaa
open Go.RowKit

/-- how many of the first so many are free -/
def lft (B : Nat → Buf) : Nat → Nat
  | 0 => 0
  | k + 1 => lft B k + if (B k).refs = 0 then 1 else 0
theorem lft_le (B : Nat → Buf) : ∀ n, lft B n ≤ n
  | 0 => Nat.le_refl _
  | k + 1 => by have := lft_le B k; unfold lft; split <;> omega

/-- the first that is free, or none is -/
theorem least (B : Nat → Buf) : ∀ n : Nat, (∃ i, i < n ∧ (B i).refs = 0 ∧ ∀ j, j < i → (B j).refs ≠ 0) ∨ ∀ j, j < n → (B j).refs ≠ 0
  | 0 => .inr (fun j hj => absurd hj (Nat.not_lt_zero _))
  | n + 1 => by
    rcases least B n with ⟨i, hi, h0, hl⟩ | h
    · exact .inl ⟨i, by omega, h0, hl⟩
    · by_cases e : (B n).refs = 0
      · exact .inl ⟨n, by omega, e, h⟩
      · refine .inr (fun j hj => ?_)
        by_cases e2 : j = n
        · rw [e2]; exact e
        · exact h j (by omega)

theorem info_buf : (Try.prog.info? 98).map (fun i => (i.zero, i.size, i.bytes)) = some (some (.agg zbuf.toArray), 395, 416) := by kernel_rfl
theorem zero_buf (w : World) : Sem.run Try.prog (zeroValue 98) w = .ok (.agg zbuf.toArray) w := by kernel_rfl
theorem siz_buf (w : World) : (Go.sizeOf 98).run Try.prog w = .ok 395 w := by kernel_rfl

/-- the cells of a buffer with one holder -/
def zbuf1 : List Value := zbuf.set 0 (.int .i64 1)
theorem zbuf1_len : zbuf1.length = 395 := by unfold zbuf1; rw [List.length_set, zbuf_len]
theorem zbuf1_one : ∀ v ∈ zbuf1, v.oneCell' = true := by
  intro v hv
  rcases List.mem_or_eq_of_mem_set hv with h | rfl
  · exact zbuf_one v h
  · rfl
theorem zbuf1_get (k : Nat) (hk : k < 395) : zbuf1[k]? = some (if k = 0 then .int .i64 1 else pzc k) := by
  unfold zbuf1
  rw [List.getElem?_set]
  by_cases e : k = 0
  · subst e; rw [if_pos rfl, if_pos (by rw [zbuf_len]; omega), if_pos rfl]
  · rw [if_neg (fun h => e h.symm), if_neg e, zbuf_get k hk]

/-- a whole buffer is stored -/
theorem store_buf {w : World} {g off : Nat} (hc : ∀ j, j < 395 → (w.cell? ⟨g, off + j, none⟩).isSome = true) (hf : ∀ k, w.frozen? ⟨g, k, none⟩ = false) : Sem.run Try.prog (storeCells ⟨g, off, none⟩ zbuf1) w = .ok () (w.setCells g off zbuf1) := by
  have hr := run_storeCells_cells (P := Try.prog) g off zbuf1 0 w (fun j hj => by rw [zbuf1_len] at hj; rw [Nat.add_zero]; exact hc j hj) (fun j _ => hf _) zbuf1_one
  rw [Nat.add_zero] at hr
  exact hr

theorem mul_mod395 (i k : Nat) (hk : k < 395) : (i * 395 + k) % 395 = k := by omega

/-- what make has laid -/
theorem made_pool {base g n : Nat} {w : World} (h : w.ownsRow base 98 395 (.slice (some ⟨g, 0, none⟩) n n) n (madeCells (Value.agg zbuf.toArray).cells (n * 395)).toList) :
    (∀ k, w.frozen? ⟨g, k, none⟩ = false) ∧ ∀ i, i < n → BufAt w g (i * 395) ⟨0, [], []⟩ := by
  refine ⟨fun k => World.ownsRow.frozenAt h k, fun i hi => BufAt.fresh 0 fun k hk => ?_⟩
  have hle : (i + 1) * 395 ≤ n * 395 := Nat.mul_le_mul_right _ hi
  have hj : i * 395 + k < n * 395 := by omega
  rw [World.ownsRow.cellAt h (i * 395 + k) hj]
  have hsz : (Value.agg zbuf.toArray).cells = zbuf.toArray := rfl
  have hs2 : zbuf.toArray.size = 395 := by simp [zbuf_len]
  rw [hsz]
  have e : (madeCells zbuf.toArray (n * 395)).toList[i * 395 + k]? = some (pzc k) := by
    have hm : (madeCells zbuf.toArray (n * 395)).toList[i * 395 + k]? = (madeCells zbuf.toArray (n * 395))[i * 395 + k]? := by simp
    rw [hm]
    unfold madeCells
    rw [Array.getElem?_map, Array.getElem?_range, if_pos hj]
    have e2 : zbuf.toArray[k]! = pzc k := by
      have hk2 : k < zbuf.toArray.size := by rw [hs2]; exact hk
      rw [getElem!_pos zbuf.toArray k hk2]
      have h3 := zbuf_get k hk
      rw [List.getElem?_eq_some_iff] at h3
      obtain ⟨h1, h2⟩ := h3
      rw [← h2]
      exact List.getElem_toArray ..
    rw [Option.map_some, hs2, mul_mod395 i k hk, e2]
  rw [e]
  split
  · subst k; rfl
  · rfl

section
variable {w : World} {b g n : Nat} {B : Nat → Buf}

theorem Left_any (H : PoolAt w b g n B) : Calls Try.prog 27 #[.pointer (some ⟨b, 0, none⟩)] w fun e w' => e = .returned (.int .i64 (lft B n : Int)) ∧ w' = w := by
  have c := H.cell
  have F := hide (fun (k : Nat) (hk : k < n) => isFree_any (H.buf k hk).refs)
  have hn : n ≤ 4096 := H.n1
  clear H
  go_enter Try.func27, Try.ntmps27
  go_wp2
  go_loop [3, 10] (fun v3 v10 => ∃ k : Nat, v10 = .int .i64 (k : Int) ∧ v3 = .int .i64 (lft B k : Int) ∧ k ≤ n) (fun _ v10 => n - (intOf v10).toNat)
  case atStart => exact ⟨0, rfl, rfl, Nat.zero_le _⟩
  case round =>
    obtain ⟨k, rfl, rfl, hk⟩ := hrel
    by_cases hlt : k < n
    · have F1 := hide (F.out k hlt)
      have h1 : (k : Int) < n := by omega
      have hb := lft_le B k
      have hb2 : (lft B k : Int) ≤ 4096 := by omega
      have E : Hid (lft B (k + 1) = lft B k + if (B k).refs = 0 then 1 else 0) := rfl
      obtain ⟨l, hl⟩ : ∃ l, l = lft B k := ⟨_, rfl⟩
      rw [← hl] at E hb2 hb ⊢
      clear hl
      by_cases e : (B k).refs = 0
      · rw [show decide ((B k).refs = 0) = true from by simp [e]] at F1
        have E2 : Hid (lft B (k + 1) = l + 1) := by show _ = _; rw [E.out, if_pos e]
        clear E e
        go_wp2_with fail
        refine F1.out.mono ?_
        rintro e w1 ⟨rfl, rfl⟩
        go_wp2
        go_round
        case rel => exact ⟨k + 1, by go_num, by rw [E2.out]; go_num, by omega⟩
        case measure => simp [intOf]; omega
      · rw [show decide ((B k).refs = 0) = false from by simp [e]] at F1
        have E2 : Hid (lft B (k + 1) = l) := by show _ = _; rw [E.out, if_neg e]; rfl
        clear E e
        go_wp2_with fail
        refine F1.out.mono ?_
        rintro e w1 ⟨rfl, rfl⟩
        go_wp2
        go_round
        case rel => exact ⟨k + 1, by go_num, by rw [E2.out], by omega⟩
        case measure => simp [intOf]; omega
    · obtain rfl : k = n := by omega
      go_wp2
      go_ret
      exact ⟨rfl, rfl⟩

theorem Get_yes (H : PoolAt w b g n B) (i : Nat) (hi : i < n) (h0 : (B i).refs = 0) (hl : ∀ j, j < i → (B j).refs ≠ 0) :
    Calls Try.prog 19 #[.pointer (some ⟨b, 0, none⟩)] w fun e w' => e = .returned (.tuple #[.int .i64 (i : Int), .int .i64 0]) ∧ PoolAt w' b g n (upd B i ⟨1, [], []⟩) ∧ But (Only g) w w' := by
  have c := H.cell
  have F := hide (fun (k : Nat) (hk : k < n) => isFree_any (H.buf k hk).refs)
  have hn : n ≤ 4096 := H.n1
  obtain ⟨Z, hZ⟩ : ∃ Z : Array Value, Z = zbuf.toArray := ⟨_, rfl⟩
  have hz := zero_buf
  rw [← hZ] at hz
  have hs : Z.size = 395 := by rw [hZ]; simp [zbuf_len]
  have hne : ¬ Z = #[] := by intro e; rw [e] at hs; simp at hs
  have HZ := hide hZ
  have HL := hide hl
  have H0 := hide h0
  have HH := hide H
  have hc := hide (fun j hj => (H.buf i hi).isThere j hj)
  have hf := hide H.fz
  clear H hZ hl h0
  go_enter Try.func19, Try.ntmps19
  go_wp2
  go_step3
  go_wp2
  go_step3
  go_wp2
  go_loop [4] (fun v4 => ∃ k : Nat, v4 = .int .i64 (k : Int) ∧ k ≤ i) (fun v4 => n - (intOf v4).toNat)
  case atStart => exact ⟨0, rfl, Nat.zero_le _⟩
  case round =>
    obtain ⟨k, rfl, hk⟩ := hrel
    have F1 := hide (F.out k (by omega))
    have h1 : (k : Int) < n := by omega
    have q : ((k : Int) == (n : Int)) = false := beq_no (by omega)
    by_cases e : k = i
    · subst e
      rw [show decide ((B k).refs = 0) = true from by simp [H0.out]] at F1
      go_wp2_with fail
      refine F1.out.mono ?_
      rintro e w1 ⟨rfl, rfl⟩
      go_wp2_with fail
      have hst := store_buf hc.out hf.out
      rw [show zbuf1 = Z.toList.set 0 (.int .i64 1) from by rw [HZ.out]; rfl] at hst
      rw [hst]
      go_wp2
      rw [Exit.noGoto_ret]
      go_ret2
      refine ⟨rfl, ?_, But.cells _ _ _ _⟩
      rw [show Z.toList.set 0 (.int .i64 1) = zbuf1 from by rw [HZ.out]; rfl]
      exact HH.out.anew k hi _ zbuf1_len zbuf1_get
    · have hlt : k < i := by omega
      rw [show decide ((B k).refs = 0) = false from by simp [HL.out k hlt]] at F1
      go_wp2_with fail
      refine F1.out.mono ?_
      rintro e w1 ⟨rfl, rfl⟩
      go_wp2
      go_round
      case rel => exact ⟨k + 1, by go_num, by omega⟩
      case measure => simp [intOf]; omega

theorem Get_no (H : PoolAt w b g n B) (hl : ∀ j, j < n → (B j).refs ≠ 0) :
    Calls Try.prog 19 #[.pointer (some ⟨b, 0, none⟩)] w fun e w' => e = .returned (.tuple #[.int .i64 0, .int .i64 8]) ∧ w' = w := by
  have c := H.cell
  have F := hide (fun (k : Nat) (hk : k < n) => isFree_any (H.buf k hk).refs)
  have hn : n ≤ 4096 := H.n1
  have HL := hide hl
  clear H hl
  go_enter Try.func19, Try.ntmps19
  go_wp2
  go_step3
  go_wp2
  go_step3
  go_wp2
  go_loop [4] (fun v4 => ∃ k : Nat, v4 = .int .i64 (k : Int) ∧ k ≤ n) (fun v4 => n - (intOf v4).toNat)
  case atStart => exact ⟨0, rfl, Nat.zero_le _⟩
  case round =>
    obtain ⟨k, rfl, hk⟩ := hrel
    by_cases e : k = n
    · subst e
      go_wp2
      go_ret2
      exact ⟨rfl, rfl⟩
    · have hlt : k < n := by omega
      have F1 := hide (F.out k hlt)
      have h1 : (k : Int) < n := by omega
      have q : ((k : Int) == (n : Int)) = false := beq_no (by omega)
      rw [show decide ((B k).refs = 0) = false from by simp [HL.out k hlt]] at F1
      go_wp2_with fail
      refine F1.out.mono ?_
      rintro e w1 ⟨rfl, rfl⟩
      go_wp2
      go_round
      case rel => exact ⟨k + 1, by go_num, by omega⟩
      case measure => simp [intOf]; omega
end

def none4 : Nat → Buf := fun _ => ⟨0, [], []⟩

theorem New_no (w : World) (many : Int) (h : many < 1 ∨ 4096 < many) : Calls Try.prog 29 #[.int .i64 many] w fun e w' => e = .returned (.tuple #[.pointer none, .int .i64 1]) ∧ w' = w := by
  by_cases h1 : many < 1
  · clear h
    go_enter Try.func29, Try.ntmps29
    go_wp2
    go_ret2
    exact ⟨rfl, rfl⟩
  · have h2 : 4096 < many := by omega
    clear h
    go_enter Try.func29, Try.ntmps29
    go_wp2
    go_ret2
    exact ⟨rfl, rfl⟩

set_option maxRecDepth 100000 in
theorem New_yes (w : World) (n : Nat) (h0 : 0 < n) (h1 : n ≤ 4096) : Calls Try.prog 29 #[.int .i64 (n : Int)] w fun e w' => ∃ b, e = .returned (.tuple #[.pointer (some ⟨b, 0, none⟩), .int .i64 0]) ∧ PoolAt w' b w.heap.size n none4 ∧ Below w.heap.size w w' ∧ w.heap.size < b := by
  obtain ⟨i0, hi, hz0, hz1, hz2⟩ := info_parts info_buf
  have q1 : (1 : Int) ≤ n := by omega
  have q2 : (n : Int) ≤ 4096 := by omega
  go_enter Try.func29, Try.ntmps29
  go_wp2_with (at_make; refine wpList_make_full _ rfl _ _ 119 rfl w.heap.size 98 i0 (.agg zbuf.toArray) 395 Try.underlying119 hi hz0 hz1 .i64 .i64 _ _ n rfl rfl rfl rfl (by rw [hz2]; omega) (by unfold maxLen; omega) (Nat.le_refl _) ?_)
  intro w1 hown hg
  have hB1 : Below w.heap.size w w1 := (Below.refl _ w).grown hg (Nat.le_refl _) (fun k e => by cases e)
  obtain ⟨hf, hb⟩ := made_pool hown
  have HF := hide hf
  have HB := hide hb
  have HB1 := hide hB1
  clear hown hg hf hb hB1 hi hz0 hz1 hz2
  have hlt : w.heap.size < w1.heap.size := World.block_lt_of_cell? w1 _ (HB.out 0 h0).refs
  have HLT := hide hlt
  clear hlt
  go_wp2
  go_ret2
  have bA : But (fun _ => False) w1 (w1.alloc (.cells #[.slice (some ⟨w.heap.size, 0, none⟩) n n] 121)) := (But.refl _ _).alloc _
  refine ⟨w1.heap.size, rfl, ⟨by have := HLT.out; omega, h0, h1, ?_, fun k => (bA.frozen (p := ⟨w.heap.size, k, none⟩) HLT.out id).trans (HF.out k), fun i hi => (HB.out i hi).keep (fun k _ => bA.cell (p := ⟨w.heap.size, i * 395 + k, none⟩) HLT.out id)⟩, HB1.out.alloc (by have := HB1.out.size; omega) _, HLT.out⟩
  rw [cell_of_row _ w1.heap.size 0 _ 121 (0, 0) (heap_alloc_new w1 _)]
  rfl

end Go.Proofs.Ytjkfjijnjkpbbaa
