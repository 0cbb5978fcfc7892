
/-
  Contracts of package pool: Trim.
-/
import Derived.Test.YtkadapjcnonbiaaP4
namespace Go.Proofs.Ytkadapjcnonbiaa
open Go.RowKit

theorem cut_len (d : List Int) (f k : Nat) (h : f + k ≤ d.length) : (cut d (f : Int) (k : Int)).length = d.length - k - f := by
  unfold cut; rw [List.length_drop, List.length_take, Int.toNat_natCast, Int.toNat_natCast]; omega
theorem cut_get (d : List Int) (f k j : Nat) (h : f + k ≤ d.length) (hj : j < d.length - k - f) : (cut d (f : Int) (k : Int))[j]?.getD 0 = d[f + j]?.getD 0 := by
  unfold cut; rw [List.getElem?_drop, List.getElem?_take, Int.toNat_natCast, Int.toNat_natCast, if_pos (by omega)]

section
variable {w : World} {b g n : Nat} {B : Nat → Buf} {A : Nat → Prop}

set_option maxRecDepth 100000 in
set_option maxHeartbeats 2000000 in
theorem Trim_yes (H : PoolAt w b g n B) (i : Nat) (hi : i < n) (hr : (B i).refs = 1) (f k : Nat) (hfk : f + k ≤ (B i).data.length) :
    Calls Try.prog 22 #[.pointer (some ⟨b, 0, none⟩), .int .i64 (i : Int), .int .i64 (f : Int), .int .i64 (k : Int)] w fun e w' => e = .returned (.int .i64 0) ∧ PoolAt w' b g n (upd B i { B i with data := cut (B i).data f k }) ∧ But (Only g) w w' := by
  have U := hide (held_yes H i hi hr)
  have hb := H.buf i hi
  have hdle := hb.dle
  have c1 := hb.dl
  have hIs := H.isData i hi (fun _ => False) id
  obtain ⟨dl, hdl⟩ : ∃ dl, dl = (B i).data.length := ⟨_, rfl⟩
  obtain ⟨cs, hcs⟩ : ∃ cs, cs = cut (B i).data (f : Int) (k : Int) := ⟨_, rfl⟩
  have hcl : cs.length = dl - k - f := by rw [hcs, cut_len _ _ _ hfk, hdl]
  have hsv : IsF (fun _ => False) w.drew (.slice (some (if 288 = f then ⟨g, i * 395 + 106, none⟩ else ⟨g, i * 395 + 106 + f, none⟩)) cs.length (288 - f)) cs := by
    refine ⟨_, _, rfl, by omega, (fun e => by cases e), fun h0 => ⟨g, i * 395 + 106 + f, by rw [if_neg (by omega)], H.drew.glt, id, fun j hj => ?_⟩⟩
    obtain ⟨y, hy, e⟩ := hb.d (f + j) (by omega)
    rw [← Nat.add_assoc] at hy
    rw [hcs, cut_get _ _ _ _ hfk (by omega), ← e (by omega)]
    exact hy
  have hc := copy_run (w := w.drew) (some ⟨g, i * 395 + 106, none⟩) 288 288 _ cs hsv g (i * 395 + 106) (fun _ => rfl) (by omega) (fun j hj => by rw [Nat.add_assoc]; exact hb.isThere _ (by omega)) H.fz
  rw [setCells_drew, hcl] at hc
  have e1 : ((w.setCells g (i * 395 + 106) (cs.map (Value.int .u8))).drew).cell? ⟨g, i * 395 + 394, none⟩ = some (.int .i64 (dl : Int)) := (setCells_out (W := w) (by rw [List.length_map]; omega)).trans (by rw [hdl]; exact hb.dl)
  have f1 : ((w.setCells g (i * 395 + 106) (cs.map (Value.int .u8))).drew).frozen? ⟨g, i * 395 + 394, none⟩ = false := (World.frozen?_setCells ..).trans (H.fz _)
  have P1 := H.lay i hi 0 cs cs (by omega) (by omega) (fun j hj => absurd hj (Nat.not_lt_zero _)) (fun j hj => by rw [Nat.zero_add])
  rw [Nat.add_zero, hcl] at P1
  have bW := But.cells g (cs.map (Value.int .u8)) (i * 395 + 106) w
  have HP := hide P1
  have HW := hide bW
  rw [← hdl] at c1 hfk hdle
  rw [← hcs]
  have q1 : (f : Int) ≤ dl := by omega
  have q2 : (k : Int) ≤ (dl : Int) - f := by omega
  have q3 : (dl : Int) ≤ 288 := by omega
  have q4 : (0 : Int) ≤ (f : Int) := by omega
  have q5 : (0 : Int) ≤ (k : Int) := by omega
  obtain ⟨h, hh⟩ : ∃ h : Nat, h = dl - k := ⟨_, rfl⟩
  have wr1 : IntKind.i64.wrap (h : Int) = (h : Int) := by rw [IntKind.wrap_i64]; omega
  have wr2 : (dl : Int) - (k : Int) = (h : Int) := by omega
  have q6 : (h : Int) ≤ 288 := by omega
  have q7 : (f : Int) ≤ (h : Int) := by omega
  rw [← hh] at hc HP
  have HC := hide hc
  clear H hr hb P1 bW hc hdl hsv hIs hcs hcl hh
  generalize w.setCells g (i * 395 + 106) (cs.map (Value.int .u8)) = w2 at *
  generalize { B i with data := cs } = xx at *
  clear hi
  generalize i * 395 = o at *
  go_enter Try.func22, Try.ntmps22
  go_wp2_with fail
  refine U.out.mono ?_
  rintro e w1 ⟨rfl, rfl⟩
  clear U
  go_wp2
  go_region_law (refine step_copy rfl _ _ 32 rfl _ _ (by simp [Act.eval, Act.put]) (by simp [Act.eval, Act.put]) HC.out ?_)
  all_goals go_wp2
  all_goals go_ret
  all_goals exact ⟨rfl, HP.out.drew, (HW.out.cellb _ _).drew⟩

set_option maxRecDepth 100000 in
theorem Trim_bad (H : PoolAt w b g n B) (i : Nat) (hi : i < n) (hr : (B i).refs = 1) (f k : Int) (hfk : ¬ (0 ≤ f ∧ 0 ≤ k ∧ f + k ≤ (B i).data.length)) :
    Calls Try.prog 22 #[.pointer (some ⟨b, 0, none⟩), .int .i64 (i : Int), .int .i64 f, .int .i64 k] w fun e w' => e = .returned (.int .i64 1) ∧ w' = w := by
  have U := hide (held_yes H i hi hr)
  have hb := H.buf i hi
  have hdle := hb.dle
  have c1 := hb.dl
  have d0 : (0 : Int) ≤ ((B i).data.length : Int) := by omega
  have d1 : ((B i).data.length : Int) ≤ 288 := by omega
  clear H hr hb hdle hi
  generalize ((B i).data.length : Int) = dl at *
  generalize i * 395 = o at *
  by_cases f0 : f < 0
  · clear hfk
    go_enter Try.func22, Try.ntmps22
    go_wp2_with fail
    refine U.out.mono ?_
    rintro e w1 ⟨rfl, rfl⟩
    go_wp2
    go_ret
    exact ⟨rfl, rfl⟩
  · by_cases k0 : k < 0
    · clear hfk
      go_enter Try.func22, Try.ntmps22
      go_wp2_with fail
      refine U.out.mono ?_
      rintro e w1 ⟨rfl, rfl⟩
      go_wp2
      go_ret
      exact ⟨rfl, rfl⟩
    · by_cases f1 : dl < f
      · clear hfk
        go_enter Try.func22, Try.ntmps22
        go_wp2_with fail
        refine U.out.mono ?_
        rintro e w1 ⟨rfl, rfl⟩
        go_wp2
        go_ret
        exact ⟨rfl, rfl⟩
      · have k1 : dl - f < k := by omega
        clear hfk
        go_enter Try.func22, Try.ntmps22
        go_wp2_with fail
        refine U.out.mono ?_
        rintro e w1 ⟨rfl, rfl⟩
        go_wp2
        go_ret
        exact ⟨rfl, rfl⟩

theorem Trim_any (H : PoolAt w b g n B) (id f k : Int) :
    Calls Try.prog 22 #[.pointer (some ⟨b, 0, none⟩), .int .i64 id, .int .i64 f, .int .i64 k] w fun e w' => e = .returned (.int .i64 (trE n B id f k)) ∧ PoolAt w' b g n (trB n B id f k) ∧ But (Only g) w w' := by
  have HH := hide H
  rcases held_cases H id with ⟨i, rfl, hi, hr, e0⟩ | ⟨hx, U0⟩
  · by_cases hfk : 0 ≤ f ∧ 0 ≤ k ∧ f + k ≤ (B i).data.length
    · have e1 : trE n B (i : Int) f k = 0 := by unfold trE; rw [if_pos e0, Int.toNat_natCast, if_pos hfk]
      have e2 : trB n B (i : Int) f k = upd B i { B i with data := cut (B i).data f k } := by unfold trB; rw [if_pos e1, Int.toNat_natCast]
      rw [e1, e2]
      obtain ⟨h0, h1, h2⟩ := hfk
      obtain ⟨f', rfl⟩ : ∃ f' : Nat, f = f' := ⟨f.toNat, by omega⟩
      obtain ⟨k', rfl⟩ : ∃ k' : Nat, k = k' := ⟨k.toNat, by omega⟩
      exact Trim_yes H i hi hr f' k' (by omega)
    · have e1 : trE n B (i : Int) f k = 1 := by unfold trE; rw [if_pos e0, Int.toNat_natCast, if_neg hfk]
      have e2 : trB n B (i : Int) f k = B := by unfold trB; rw [e1, if_neg (by omega)]
      rw [e1, e2]
      exact (Trim_bad H i hi hr f k hfk).mono (fun e w' ⟨h1, h2⟩ => ⟨h1, h2 ▸ H, h2 ▸ But.refl _ _⟩)
  · have U := hide U0
    have e2 : trE n B id f k = owE n B id := by unfold trE; rw [if_neg hx]
    have e3 : trB n B id f k = B := by unfold trB; rw [e2, if_neg hx]
    rw [e2, e3]
    clear H e2 e3 U0
    generalize owE n B id = x at *
    have q : (x != 0) = true := by simp [hx]
    clear hx
    go_enter Try.func22, Try.ntmps22
    go_wp2_with fail
    refine U.out.mono ?_
    rintro e w1 ⟨rfl, rfl⟩
    go_wp2
    go_ret
    exact ⟨rfl, HH.out, But.refl _ _⟩
end

end Go.Proofs.Ytkadapjcnonbiaa
