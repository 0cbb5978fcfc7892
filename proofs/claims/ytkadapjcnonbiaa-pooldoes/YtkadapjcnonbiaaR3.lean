
/-
  The document's answer: Append, Trim, See.
-/
import Derived.Test.YtkadapjcnonbiaaR2
namespace Go.Proofs.Ytkadapjcnonbiaa
open Go.RowKit

theorem IsF.cutF {X : Nat → Prop} {w : World} {g c : Nat} {D : List Int} (h : IsF X w (.slice (some ⟨g, 0, none⟩) D.length c) D) (f k : Nat) (hfk : f + k ≤ D.length) (a' : Addr) (ha : f < c → a' = ⟨g, f, none⟩) : IsF X w (.slice (some a') (D.length - k - f) (c - f)) (cut D f k) := by
  have hl := cut_len D f k hfk
  obtain ⟨a0, c0, e0, hle, hnn, hcs⟩ := h
  simp only [Value.slice.injEq, true_and] at e0
  obtain ⟨rfl, rfl⟩ := e0
  refine ⟨_, c - f, by rw [hl], by omega, (fun e => by cases e), fun h0 => ?_⟩
  rw [hl] at h0
  obtain ⟨g', off, e1, hlt, hXg, hc⟩ := hcs (by omega)
  simp only [Option.some.injEq, Addr.mk.injEq, and_true] at e1
  obtain ⟨rfl, rfl⟩ := e1
  refine ⟨g, f, by rw [ha (by omega)], hlt, hXg, fun j hj => ?_⟩
  rw [hl] at hj
  have := hc (f + j) (by omega)
  rw [Nat.zero_add] at this
  rw [this, cut_get D f k j hfk hj]

section
variable {A A' : Nat → Prop} {w : World} {b g n : Nat} {B : Nat → Buf}

set_option maxHeartbeats 2000000 in
theorem rAppend_any (H : RPool A w b g n B) (hA : ∀ x, A x → x < w.heap.size) (id : Int) (v : Value) (bs : List Int) (hv : IsF A' w v bs) (hbl : bs.length ≤ 140737488351232) :
    Calls Try.prog 27 #[.pointer (some ⟨b, 0, none⟩), .int .i64 id, v] w fun e w' => e = .returned (.int .i64 (apE n B id bs)) ∧ RPool A w' b g n (apB n B id bs) ∧ But (Only g) w w' := by
  obtain ⟨va, vc, rfl, _, _⟩ := hv.shape
  have HH := hide H
  have U := hide (own_any H id)
  unfold apB apE
  by_cases e0 : owE n B id = 0
  · obtain ⟨i, rfl, hi, hr⟩ := own_one e0
    rw [e0] at U ⊢
    rw [if_pos rfl, Int.toNat_natCast]
    obtain ⟨dv, kd, hdv, _⟩ := H.data i hi
    obtain ⟨da, dc, rfl, _, _⟩ := hdv.shape
    have hdl := H.dle i hi
    have c := H.cell
    have z1 : (i : Int) < n := by omega
    have z2 : (bs.length : Int) ≤ 140737488351232 := by omega
    have z3 : ((B i).data.length : Int) ≤ 288 := by omega
    by_cases hl : 288 < bs.length + (B i).data.length
    · rw [if_pos hl, if_neg (by omega)]
      have hl' : (288 : Int) < (bs.length : Int) + ((B i).data.length : Int) := by omega
      clear H hr hi e0 hl hv hA hdv hdl hbl
      go_enter Try.func27, Try.ntmps27
      go_wp2_with fail
      refine U.out.mono ?_
      rintro e w1 ⟨rfl, rfl⟩
      go_wp2
      go_ret
      exact ⟨rfl, HH.out, But.refl _ _⟩
    · rw [if_neg hl, if_pos rfl]
      have hl' : (bs.length : Int) + ((B i).data.length : Int) ≤ 288 := by omega
      obtain ⟨L, eL⟩ : ∃ L, L = (B i).data ++ bs := ⟨_, rfl⟩
      have HLL : Hid (L.length ≤ 288) := by show _ ≤ _; rw [eL, List.length_append]; omega
      rw [← eL]
      have EL := hide eL
      have VV := hide hv
      have DV := hide hdv
      have HA := hide hA
      clear eL
      generalize (B i).data = D at *
      clear H hr e0 hv hA hl hdv
      go_enter Try.func27, Try.ntmps27
      go_wp2_with fail
      refine U.out.mono ?_
      rintro e w1 ⟨rfl, rfl⟩
      clear U
      go_wp2_with (at_builtin; refine wpList_grow rfl _ _ rfl rfl w1.heap.size A _ _ [] D rfl rfl (Gro.nil _ _) DV.out (Nat.le_refl _) (by simp; omega) D (List.nil_append _) ?_)
      intro a2 c2 w2 hc2 hG2 hB2
      have KK := hide (fun (W' : World) (hb : Below w1.heap.size w1 W') => HH.out.finds i hi hb)
      have c' := (KK.out _ hB2).1
      have FV := hide (((VV.out.but (K := fun _ => False) (But.of_below hB2) (fun _ e => e.elim))).drew)
      have G2 := hide (hG2.but (K := fun _ => False) (But.refl _ w2).drew (fun _ e => e.elim))
      have HB2 := hide hB2
      clear hG2 hB2 c kd
      go_wp2
      go_region_law (refine step_more rfl _ _ rfl rfl _ _ D bs (by simp [Act.eval, Act.put]) (by simp [Act.eval, Act.put]) G2.out FV.out (show w1.heap.size ≤ w2.drew.heap.size from HB2.out.size) (by omega) L EL.out.symm ?_; intro a' cap' w' hG hB; have hB' := HB2.out.trans (undrew hB); obtain ⟨hc', ⟨u1, k1⟩, ⟨u2, k2⟩, f1, f2, hd⟩ := KK.out _ hB'; have HD := hide hd; have HG := hide hG; have HBB := hide hB'; clear hd hG hB hB')
      all_goals go_wp2
      all_goals go_ret
      all_goals refine ⟨rfl, ?_, (But.of_below HBB.out).cellb _ _⟩
      all_goals exact HD.out.setData i hi _ L (HG.out.isF (fun x hx ha => by have h1 := HA.out x ha; omega)) HG.out.flat HLL.out
  · rw [if_neg e0, if_neg e0]
    clear H hv
    generalize owE n B id = x at *
    have q : (x == 0) = false := beq_no e0
    clear e0
    go_enter Try.func27, Try.ntmps27
    go_wp2_with fail
    refine U.out.mono ?_
    rintro e w1 ⟨rfl, rfl⟩
    go_wp2
    go_ret
    exact ⟨rfl, HH.out, But.refl _ _⟩

/-- three cells of a struct are loaded and stored -/
theorem rSee_yes (H : RPool A w b g n B) (i : Nat) (hi : i < n) (hr : 0 < (B i).refs) :
    Calls Try.prog 30 #[.pointer (some ⟨b, 0, none⟩), .int .i64 (i : Int)] w fun e w' => ∃ hv dv, e = .returned (.tuple #[.agg #[.int .i64 ((B i).refs : Int), hv, dv], .int .i64 0]) ∧ IsF A w' hv (B i).head ∧ IsF A w' dv (B i).data ∧ Below w.heap.size w w' := by
  have bA : Below w.heap.size w (w.alloc (.cells #[.int .i64 0, .slice none 0 0, .slice none 0 0] 43)) := (Below.refl _ w).alloc (Nat.le_refl _) _
  have H1 := H.later bA
  have U := hide (used_any H1 (i : Int))
  rw [usd_nat hi hr] at U
  have c := H1.cell
  have k0 := H1.refs i hi
  obtain ⟨hv, k1, ih0⟩ := H1.head i hi
  obtain ⟨dv, k2, id0, _⟩ := H1.data i hi
  obtain ⟨hv', k1', ih1⟩ := H.head i hi
  obtain ⟨dv', k2', id1, _⟩ := H.data i hi
  obtain rfl : hv' = hv := by
    have := (bA.cell (p := ⟨g, i * 3 + 1, none⟩) H.glt).trans k1'
    rw [k1] at this; exact (Option.some.inj this).symm
  obtain rfl : dv' = dv := by
    have := (bA.cell (p := ⟨g, i * 3 + 2, none⟩) H.glt).trans k2'
    rw [k2] at this; exact (Option.some.inj this).symm
  have ih : IsF (fun x => A x ∨ x = w.heap.size) _ _ _ := (ih1.avoid (A' := fun x => A x ∨ x = w.heap.size) (fun x hx e => e.elim id (fun e => by omega))).alloc (.cells #[.int .i64 0, .slice none 0 0, .slice none 0 0] 43)
  have id' : IsF (fun x => A x ∨ x = w.heap.size) _ _ _ := (id1.avoid (A' := fun x => A x ∨ x = w.heap.size) (fun x hx e => e.elim id (fun e => by omega))).alloc (.cells #[.int .i64 0, .slice none 0 0, .slice none 0 0] 43)
  clear ih0 id0 ih1 id1 k1' k2'
  obtain ⟨x1, y1, rfl, _⟩ := ih.shape
  obtain ⟨x2, y2, rfl, _⟩ := id'.shape
  have T := Tri.new w 43
  have z1 : (i : Int) < n := by omega
  have IH := hide ih
  have ID := hide id'
  have BA := hide bA
  have HG : Hid (g < w.heap.size) := H.glt
  have hgs : ¬ g = w.heap.size := by have := H.glt; omega
  have hsg : ¬ w.heap.size = g := by have := H.glt; omega
  clear H H1 hr ih id' bA hi
  generalize ((B i).refs : Int) = r at *
  generalize (B i).head = hd at *
  generalize (B i).data = dd at *
  go_enter Try.func30, Try.ntmps30
  go_wp2_with fail
  obtain ⟨s, hs⟩ : ∃ s, s = w.heap.size := ⟨_, rfl⟩
  rw [← hs] at T hgs hsg HG IH ID ⊢
  have HS := hide hs
  clear hs
  generalize w.alloc (.cells #[.int .i64 0, .slice none 0 0, .slice none 0 0] 43) = w1 at *
  obtain ⟨t0, t1, t2, tf⟩ := T
  have tf0 := tf 0
  have tf1 := tf 1
  have tf2 := tf 2
  clear tf
  refine U.out.mono ?_
  rintro e w2 ⟨rfl, rfl⟩
  clear U
  go_wp2
  refine bodyPost_ret (v := .tuple #[.agg #[.int .i64 r, .slice x1 hd.length y1, .slice x2 dd.length y2], .int .i64 0]) (by simp [results, asAddr, go_sem, t0, t1, t2]) rfl ?_
  have bS : But (Only s) w2 (((w2.setCell ⟨s, 0, none⟩ (.int .i64 r)).setCell ⟨s, 1, none⟩ (.slice x1 hd.length y1)).setCell ⟨s, 2, none⟩ (.slice x2 dd.length y2)) := (((But.refl _ w2).cellb _ _).cellb _ _).cellb _ _
  exact ⟨_, _, rfl, (IH.out.but bS (fun x e => .inr e)).avoid (fun x _ e => .inl e), (ID.out.but bS (fun x e => .inr e)).avoid (fun x _ e => .inl e), BA.out.trans (bS.below BA.out.size (fun x hx e => by have e : x = s := e; have := HS.out; omega))⟩
end

end Go.Proofs.Ytkadapjcnonbiaa
