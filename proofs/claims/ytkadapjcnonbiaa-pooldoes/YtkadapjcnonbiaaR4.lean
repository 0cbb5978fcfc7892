
/-
  The document's answer: Trim, See.
-/
import Derived.Test.YtkadapjcnonbiaaR3
namespace Go.Proofs.Ytkadapjcnonbiaa
open Go.RowKit

section
variable {A A' : Nat → Prop} {w : World} {b g n : Nat} {B : Nat → Buf}

theorem rSee_no (H : RPool A w b g n B) (id : Int) (hu : usd n B id = false) :
    Calls Try.prog 30 #[.pointer (some ⟨b, 0, none⟩), .int .i64 id] w fun e w' => e = .returned (.tuple #[.agg #[.int .i64 0, .slice none 0 0, .slice none 0 0], .int .i64 7]) ∧ Below w.heap.size w w' := by
  have U := hide (used_any (H.al (.cells #[.int .i64 0, .slice none 0 0, .slice none 0 0] 43)) id)
  rw [hu] at U
  clear H hu
  go_enter Try.func30, Try.ntmps30
  go_wp2_with fail
  refine U.out.mono ?_
  rintro e w1 ⟨rfl, rfl⟩
  clear U
  go_wp2
  refine bodyPost_ret (v := .tuple #[.agg #[.int .i64 0, .slice none 0 0, .slice none 0 0], .int .i64 7]) (by simp [results, asAddr, go_sem]) rfl ?_
  exact ⟨rfl, (Below.refl _ w).alloc (Nat.le_refl _) _⟩

theorem rSee_any (H : RPool A w b g n B) (id : Int) :
    Calls Try.prog 30 #[.pointer (some ⟨b, 0, none⟩), .int .i64 id] w fun e w' => ∃ hv dv, e = .returned (.tuple #[.agg #[.int .i64 ((seX n B id).refs : Int), hv, dv], .int .i64 (hoE n B id)]) ∧ IsF A w' hv (seX n B id).head ∧ IsF A w' dv (seX n B id).data ∧ Below w.heap.size w w' := by
  unfold seX hoE
  cases hu : usd n B id with
  | false =>
    rw [if_neg (by simp), if_neg (by simp)]
    exact (rSee_no H id hu).mono (fun e w' h => ⟨_, _, h.1, IsF.nil _ _, IsF.nil _ _, h.2⟩)
  | true =>
    obtain ⟨i, rfl, hi, hr⟩ := usd_yes hu
    rw [if_pos rfl, if_pos rfl, Int.toNat_natCast]
    exact rSee_yes H i hi hr

theorem rTrim_bad (H : RPool A w b g n B) (i : Nat) (hi : i < n) (hr : owE n B (i : Int) = 0) (f k : Int) (hfk : ¬ (0 ≤ f ∧ 0 ≤ k ∧ f + k ≤ (B i).data.length)) :
    Calls Try.prog 28 #[.pointer (some ⟨b, 0, none⟩), .int .i64 (i : Int), .int .i64 f, .int .i64 k] w fun e w' => e = .returned (.int .i64 1) ∧ w' = w := by
  have U := hide (own_any H (i : Int))
  rw [hr] at U
  obtain ⟨dv, kd, hdv, _⟩ := H.data i hi
  obtain ⟨da, dc, rfl, _, _⟩ := hdv.shape
  have hdl := H.dle i hi
  have c := H.cell
  have z1 : (i : Int) < n := by omega
  have d0 : (0 : Int) ≤ ((B i).data.length : Int) := by omega
  have d1 : ((B i).data.length : Int) ≤ 288 := by omega
  clear H hr hi hdl hdv
  generalize (B i).data.length = m at *
  by_cases f0 : f < 0
  · clear hfk
    go_enter Try.func28, Try.ntmps28
    go_wp2_with fail
    refine U.out.mono ?_
    rintro e w1 ⟨rfl, rfl⟩
    go_wp2
    go_ret
    exact ⟨rfl, rfl⟩
  · by_cases k0 : k < 0
    · clear hfk
      go_enter Try.func28, Try.ntmps28
      go_wp2_with fail
      refine U.out.mono ?_
      rintro e w1 ⟨rfl, rfl⟩
      go_wp2
      go_ret
      exact ⟨rfl, rfl⟩
    · by_cases f1 : (m : Int) < f
      · clear hfk
        go_enter Try.func28, Try.ntmps28
        go_wp2_with fail
        refine U.out.mono ?_
        rintro e w1 ⟨rfl, rfl⟩
        go_wp2
        go_ret
        exact ⟨rfl, rfl⟩
      · have k1 : (m : Int) - f < k := by omega
        clear hfk
        go_enter Try.func28, Try.ntmps28
        go_wp2_with fail
        refine U.out.mono ?_
        rintro e w1 ⟨rfl, rfl⟩
        go_wp2
        go_ret
        exact ⟨rfl, rfl⟩

set_option maxRecDepth 100000 in
set_option maxHeartbeats 4000000 in
theorem rTrim_yes (H : RPool A w b g n B) (hA : ∀ x, A x → x < w.heap.size) (i : Nat) (hi : i < n) (hr : owE n B (i : Int) = 0) (f k : Nat) (hfk : f + k ≤ (B i).data.length) :
    Calls Try.prog 28 #[.pointer (some ⟨b, 0, none⟩), .int .i64 (i : Int), .int .i64 (f : Int), .int .i64 (k : Int)] w fun e w' => e = .returned (.int .i64 0) ∧ RPool A w' b g n (upd B i { B i with data := cut (B i).data f k }) ∧ But (Only g) w w' := by
  have U := hide (own_any H (i : Int))
  rw [hr] at U
  obtain ⟨dv, kd, hdv, hfl⟩ := H.data i hi
  have hdl := H.dle i hi
  have c := H.cell
  have cd := H.drew.cell
  have KK := hide (fun (W' : World) (hb : Below w.drew.heap.size w.drew W') => H.drew.finds i hi hb)
  have z1 : (i : Int) < n := by omega
  have HA := hide hA
  have hcl := cut_len (B i).data f k hfk
  obtain ⟨C, eC⟩ : ∃ C, C = cut (B i).data (f : Int) (k : Int) := ⟨_, rfl⟩
  rw [← eC] at hcl ⊢
  have q1 : (f : Int) ≤ ((B i).data.length : Int) := by omega
  have q2 : (k : Int) ≤ ((B i).data.length : Int) - f := by omega
  have q3 : ((B i).data.length : Int) ≤ 288 := by omega
  have q4 : (0 : Int) ≤ (f : Int) := by omega
  have q5 : (0 : Int) ≤ (k : Int) := by omega
  obtain ⟨h, hh⟩ : ∃ h : Nat, h = (B i).data.length - k := ⟨_, rfl⟩
  have wr1 : IntKind.i64.wrap (h : Int) = (h : Int) := by rw [IntKind.wrap_i64]; omega
  have wr2 : ((B i).data.length : Int) - (k : Int) = (h : Int) := by omega
  have q7 : (f : Int) ≤ (h : Int) := by omega
  have q8 : (h : Int) ≤ ((B i).data.length : Int) := by omega
  have CL : Hid (C.length = h - f) := by show _ = _; rw [hcl, hh]
  have CL2 : Hid (C.length ≤ 288) := by show _ ≤ _; omega
  have EC := hide eC
  have HFK := hide hfk
  have HDL := hide hdl
  have HHH := hide hh
  have HV := hide hdv
  clear H hr hA hcl eC hdl hfk hh
  generalize (B i).data = D at *
  rcases hfl with rfl | ⟨blk, l0, dc, rfl⟩
  · obtain ⟨a0, c0, e0, _⟩ := hdv
    simp only [Value.slice.injEq] at e0
    obtain ⟨rfl, e1, rfl⟩ := e0
    have hD : D = [] := List.eq_nil_of_length_eq_zero e1.symm
    subst hD
    have f0 : f = 0 := by have := HFK.out; simp at this; omega
    have k0 : k = 0 := by have := HFK.out; simp at this; omega
    subst f0 k0
    have h0 : h = 0 := by have := HHH.out; simpa using this
    subst h0
    have C0 : C = [] := EC.out
    subst C0
    have wz : IntKind.i64.wrap 0 = 0 := by decide
    clear wr1 wr2 q1 q2 q3 q4 q5 q7 q8 e1 EC HFK HHH CL HV
    go_enter Try.func28, Try.ntmps28
    go_wp2_with fail
    refine U.out.mono ?_
    rintro e w1 ⟨rfl, rfl⟩
    clear U
    go_wp2
    go_region_law (refine step_more rfl _ _ rfl rfl _ _ [] [] (by simp [Act.eval]) (by simp [Act.eval, Act.put]) (Gro.nil _ _) (IsF.nil (fun _ => False) _) (Nat.le_refl _) (by simp) [] rfl ?_; intro a' cap' w' hG hB; obtain ⟨hc', ⟨u1, k1⟩, ⟨u2, k2⟩, f1, f2, hd⟩ := KK.out _ hB; have HD := hide hd; have HG := hide hG; have HBB := hide hB; clear hd hG hB)
    all_goals go_wp2
    all_goals go_ret
    all_goals refine ⟨rfl, ?_, (But.of_below (undrew HBB.out)).cellb _ _⟩
    all_goals exact HD.out.setData i hi _ [] (HG.out.isF (fun x hx ha => by have h1 := HA.out x ha; have h3 : w1.heap.size ≤ x := hx; omega)) HG.out.flat (by simp)
  · obtain ⟨a0, c0, e0, hle, _⟩ := hdv
    simp only [Value.slice.injEq] at e0
    obtain ⟨rfl, rfl, rfl⟩ := e0
    have XR : Hid (IsF A w.drew (.slice (some (if dc = f then ⟨blk, 0, none⟩ else ⟨blk, f, none⟩)) (h - f) (dc - f)) C) := by
      have := HV.out.drew.cutF f k HFK.out (if dc = f then ⟨blk, 0, none⟩ else ⟨blk, f, none⟩) (fun hlt => by rw [if_neg (by omega)])
      rw [← HHH.out, ← EC.out] at this
      exact this
    have q9 : (h : Int) ≤ (dc : Int) := by omega
    have q10 : (f : Int) ≤ (dc : Int) := by omega
    have CLE := hide (show C.length ≤ 140737488355328 by have := CL2.out; omega)
    clear EC HFK HHH HV hle CL
    by_cases ecf : dc = f
    · subst ecf
      rw [if_pos rfl, Nat.sub_self] at XR
      go_enter Try.func28, Try.ntmps28
      go_wp2_with fail
      refine U.out.mono ?_
      rintro e w1 ⟨rfl, rfl⟩
      clear U
      go_wp2
      go_region_law (refine step_more rfl _ _ rfl rfl _ _ [] C (by simp [Act.eval]) (by simp [Act.eval, Act.put]) (Gro.nil _ _) XR.out (Nat.le_refl _) (by simpa using CLE.out) C (List.nil_append _) ?_; intro a' cap' w' hG hB; obtain ⟨hc', ⟨u1, k1⟩, ⟨u2, k2⟩, f1, f2, hd⟩ := KK.out _ hB; have HD := hide hd; have HG := hide hG; have HBB := hide hB; clear hd hG hB)
      all_goals go_wp2
      all_goals go_ret
      all_goals refine ⟨rfl, ?_, (But.of_below (undrew HBB.out)).cellb _ _⟩
      all_goals exact HD.out.setData i hi _ C (HG.out.isF (fun x hx ha => by have h1 := HA.out x ha; have h3 : w1.heap.size ≤ x := hx; omega)) HG.out.flat CL2.out
    · rw [if_neg ecf] at XR
      go_enter Try.func28, Try.ntmps28
      go_wp2_with fail
      refine U.out.mono ?_
      rintro e w1 ⟨rfl, rfl⟩
      clear U
      go_wp2
      go_region_law (refine step_more rfl _ _ rfl rfl _ _ [] C (by simp [Act.eval]) (by simp [Act.eval, Act.put]) (Gro.nil _ _) XR.out (Nat.le_refl _) (by simpa using CLE.out) C (List.nil_append _) ?_; intro a' cap' w' hG hB; obtain ⟨hc', ⟨u1, k1⟩, ⟨u2, k2⟩, f1, f2, hd⟩ := KK.out _ hB; have HD := hide hd; have HG := hide hG; have HBB := hide hB; clear hd hG hB)
      all_goals go_wp2
      all_goals go_ret
      all_goals refine ⟨rfl, ?_, (But.of_below (undrew HBB.out)).cellb _ _⟩
      all_goals exact HD.out.setData i hi _ C (HG.out.isF (fun x hx ha => by have h1 := HA.out x ha; have h3 : w1.heap.size ≤ x := hx; omega)) HG.out.flat CL2.out

theorem rTrim_any (H : RPool A w b g n B) (hA : ∀ x, A x → x < w.heap.size) (id f k : Int) :
    Calls Try.prog 28 #[.pointer (some ⟨b, 0, none⟩), .int .i64 id, .int .i64 f, .int .i64 k] w fun e w' => e = .returned (.int .i64 (trE n B id f k)) ∧ RPool A w' b g n (trB n B id f k) ∧ But (Only g) w w' := by
  by_cases e0 : owE n B id = 0
  · obtain ⟨i, rfl, hi, hr⟩ := own_one e0
    by_cases hfk : 0 ≤ f ∧ 0 ≤ k ∧ f + k ≤ (B i).data.length
    · have e1 : trE n B (i : Int) f k = 0 := by unfold trE; rw [if_pos e0, Int.toNat_natCast, if_pos hfk]
      have e2 : trB n B (i : Int) f k = upd B i { B i with data := cut (B i).data f k } := by unfold trB; rw [if_pos e1, Int.toNat_natCast]
      rw [e1, e2]
      obtain ⟨h0, h1, h2⟩ := hfk
      obtain ⟨f', rfl⟩ : ∃ f' : Nat, f = f' := ⟨f.toNat, by omega⟩
      obtain ⟨k', rfl⟩ : ∃ k' : Nat, k = k' := ⟨k.toNat, by omega⟩
      exact rTrim_yes H hA i hi e0 f' k' (by omega)
    · have e1 : trE n B (i : Int) f k = 1 := by unfold trE; rw [if_pos e0, Int.toNat_natCast, if_neg hfk]
      have e2 : trB n B (i : Int) f k = B := by unfold trB; rw [e1, if_neg (by omega)]
      rw [e1, e2]
      exact (rTrim_bad H i hi e0 f k hfk).mono (fun e w' ⟨h1, h2⟩ => ⟨h1, h2 ▸ H, h2 ▸ But.refl _ _⟩)
  · have U := hide (own_any H id)
    have HH := hide H
    have e2 : trE n B id f k = owE n B id := by unfold trE; rw [if_neg e0]
    have e3 : trB n B id f k = B := by unfold trB; rw [e2, if_neg e0]
    rw [e2, e3]
    clear H e2 e3
    generalize owE n B id = x at *
    have q : (x != 0) = true := by simp [e0]
    clear e0
    go_enter Try.func28, Try.ntmps28
    go_wp2_with fail
    refine U.out.mono ?_
    rintro e w1 ⟨rfl, rfl⟩
    go_wp2
    go_ret
    exact ⟨rfl, HH.out, But.refl _ _⟩
end

end Go.Proofs.Ytkadapjcnonbiaa
