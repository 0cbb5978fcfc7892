
/-
  The document's answer: contracts of New, Read, Oldest, off, event, Link, devices.
-/
import Derived.Test.YtjkfjijnjkpbbaaNOk
import Derived.Deep.RegionLaw
namespace Go.Proofs.Ytjkfjijnjkpbbaa
open Go.RowKit

theorem zeroR (w : World) : Sem.run Try.prog (zeroValue 84) w = .ok (.agg ((List.range 105).map (zc LR)).toArray) w := by kernel_rfl
theorem aggR (w : World) : (isAgg 84).run Try.prog w = .ok true w := by kernel_rfl
theorem sizR (w : World) : (Go.sizeOf 84).run Try.prog w = .ok 105 w := by kernel_rfl

theorem rNew_any (w : World) : Calls Try.prog 25 #[] w fun e w' => e = .returned (.pointer (some ⟨w.heap.size, 0, none⟩)) ∧ (∀ A : Nat → Prop, A w.heap.size → DevAt LR A w' w.heap.size Dev.new) ∧ Below w.heap.size w w' ∧ w'.heap.size = w.heap.size + 1 := by
  obtain ⟨Z, hZ⟩ : ∃ Z : Array Value, Z = ((List.range 105).map (zc LR)).toArray := ⟨_, rfl⟩
  have hz := zeroR
  rw [← hZ] at hz
  have hs : Z.size = 105 := by rw [hZ]; rfl
  have HZ := hide hZ
  clear hZ
  go_enter Try.func25, Try.ntmps25
  go_wp2
  go_ret
  exact ⟨rfl, fun A hA => new_dev LR LR_ok A w _ hA Z HZ.out, (Below.refl _ w).alloc (Nat.le_refl _) _, by simp⟩

theorem rRead_any {A : Nat → Prop} {b : Nat} {D : Dev} {w : World} (h : DevAt LR A w b D) (reg : Int) :
    Calls Try.prog 94 #[.pointer (some ⟨b, 0, none⟩), .int .i64 reg] w fun e w' => e = .returned (.tuple #[.int .i64 (D.rdV reg), .int .i64 (rdE reg)]) ∧ DevAt LR A w' b (D.rdD reg) ∧ But (Only b) w w' := by
  by_cases h0 : 0 ≤ reg
  · by_cases h1 : reg < 8
    · obtain ⟨k, rfl⟩ : ∃ k : Nat, reg = k := ⟨reg.toNat, by omega⟩
      have c := h.creg k (by omega)
      have hf := h.frozen k
      have H := hide h
      have e1 : D.rdV k = D.r k := by unfold Dev.rdV; rw [if_pos (by omega)]; simp
      have e2 : rdE k = 0 := by unfold rdE; rw [if_pos (by omega)]
      rw [e1, e2]
      have E3 : Hid (k = 6 → D.rdD k = { D with r := upd D.r k 0 }) := by rintro rfl; unfold Dev.rdD; simp
      have E4 : Hid (¬ k = 6 → D.rdD k = D) := by intro h; unfold Dev.rdD; rw [if_neg (by omega)]
      clear h e1 e2
      generalize D.rdD k = D' at *
      obtain ⟨x, hx⟩ : ∃ x, x = D.r k := ⟨_, rfl⟩
      rw [← hx] at c ⊢
      clear hx
      by_cases h6 : k = 6
      · have q : ((k : Int) == 6) = true := by simp [h6]
        have e := E3.out h6
        subst e
        clear E3 E4 h6
        go_enter Try.func94, Try.ntmps94
        go_wp2
        go_ret2
        exact ⟨rfl, H.out.setReg LR_ok k (by omega) 0, (But.refl _ _).cellb _ _⟩
      · have q : ((k : Int) == 6) = false := by simp; omega
        have e := E4.out h6
        subst e
        clear E3 E4 h6
        go_enter Try.func94, Try.ntmps94
        go_wp2
        go_ret2
        exact ⟨rfl, H.out, But.refl _ _⟩
    · have e1 : D.rdV reg = 0 := by unfold Dev.rdV; rw [if_neg (by omega)]
      have e2 : rdE reg = 1 := by unfold rdE; rw [if_neg (by omega)]
      have e3 : D.rdD reg = D := by unfold Dev.rdD; rw [if_neg (by omega)]
      rw [e1, e2, e3]
      have H := hide h
      clear h e1 e2 e3
      go_enter Try.func94, Try.ntmps94
      go_wp2
      go_ret2
      exact ⟨rfl, H.out, But.refl _ _⟩
  · have e1 : D.rdV reg = 0 := by unfold Dev.rdV; rw [if_neg (by omega)]
    have e2 : rdE reg = 1 := by unfold rdE; rw [if_neg (by omega)]
    have e3 : D.rdD reg = D := by unfold Dev.rdD; rw [if_neg (by omega)]
    rw [e1, e2, e3]
    have H := hide h
    clear h e1 e2 e3
    go_enter Try.func94, Try.ntmps94
    go_wp2
    go_ret2
    exact ⟨rfl, H.out, But.refl _ _⟩

theorem roff_any {A : Nat → Prop} {b : Nat} {D : Dev} {w : World} (h : DevAt LR A w b D) : Calls Try.prog 77 #[.pointer (some ⟨b, 0, none⟩)] w fun e w' => e = .returned (.bool (!D.runs)) ∧ w' = w := by
  have c0 := h.creg 0 (by omega)
  have c1 := h.creg 1 (by omega)
  obtain ⟨r, hr⟩ : ∃ r, r = D.runs := ⟨_, rfl⟩
  unfold Dev.runs at hr
  unfold Dev.runs
  rw [← hr]
  generalize D.r 0 = x at *
  generalize D.r 1 = y at *
  clear h
  by_cases h0 : x = 1
  · by_cases h1 : y = 1
    · have q0 : (x != 1) = false := by simp [h0]
      have q1 : (y != 1) = false := by simp [h1]
      have : r = true := by simp [hr, h0, h1]
      subst this
      clear hr h0 h1
      go_enter Try.func77, Try.ntmps77
      go_wp2
      go_ret
      exact ⟨rfl, rfl⟩
    · have q0 : (x != 1) = false := by simp [h0]
      have q1 : (y != 1) = true := by simp [h1]
      have : r = false := by simp [hr, h1]
      subst this
      clear hr h0 h1
      go_enter Try.func77, Try.ntmps77
      go_wp2
      go_ret
      exact ⟨rfl, rfl⟩
  · have q0 : (x != 1) = true := by simp [h0]
    have : r = false := by simp [hr, h0]
    subst this
    clear hr h0
    go_enter Try.func77, Try.ntmps77
    go_wp2
    go_ret
    exact ⟨rfl, rfl⟩

theorem revent_any {A : Nat → Prop} {b : Nat} {D : Dev} {w : World} (h : DevAt LR A w b D) (ev : 0 ≤ D.r 6 ∧ D.r 6 ≤ 7) (x : Int) (hx : x = 1 ∨ x = 2 ∨ x = 4) :
    Calls Try.prog 78 #[.pointer (some ⟨b, 0, none⟩), .int .i64 x] w fun e w' => e = .returned (.tuple #[]) ∧ DevAt LR A w' b { D with r := upd D.r 6 (evor (D.r 6) x) } ∧ But (Only b) w w' := by
  have c6 := h.creg 6 (by omega)
  have f6 := h.frozen 6
  have H := hide h
  clear h
  obtain ⟨y, hy⟩ : ∃ y, y = D.r 6 := ⟨_, rfl⟩
  have HSAME : Hid (y = D.r 6) := hy
  rw [← hy] at c6 ev ⊢
  clear hy
  have hy8 : y = 0 ∨ y = 1 ∨ y = 2 ∨ y = 3 ∨ y = 4 ∨ y = 5 ∨ y = 6 ∨ y = 7 := by omega
  clear ev
  have same : ∀ z : Int, z = y → DevAt LR A w b { D with r := upd D.r 6 z } := fun z hz => by
    have e : upd D.r 6 z = D.r := by
      funext i; simp only [upd]; split
      · rename_i e; rw [e, hz]; exact HSAME.out
      · rfl
    rw [e]; exact H.out
  have SM := hide same
  clear same
  rcases hx with rfl | rfl | rfl <;> rcases hy8 with rfl | rfl | rfl | rfl | rfl | rfl | rfl | rfl
  all_goals go_enter Try.func78, Try.ntmps78
  all_goals go_wp2
  all_goals first
    | (go_end0; exact ⟨rfl, SM.out _ (by decide), But.refl _ _⟩)
    | (go_region; go_wp2; go_end0; exact ⟨rfl, (H.out.setReg LR_ok 6 (by omega) _).drew, ((But.refl _ _).cellb _ _).drew⟩)

theorem rLink_any {A : Nat → Prop} {b : Nat} {D : Dev} {w : World} (h : DevAt LR A w b D) (ok : D.Ok) (up : Bool) :
    Calls Try.prog 41 #[.pointer (some ⟨b, 0, none⟩), .bool up] w fun e w' => e = .returned (.tuple #[]) ∧ DevAt LR A w' b (D.lkD up) ∧ But (Only b) w w' := by
  have c1 := h.creg 1 (by omega)
  have f1 := h.frozen 1
  have H := hide h
  have OK := hide ok
  by_cases e : D.r 1 = bit up
  · have E : Hid (D.lkD up = D) := by unfold Dev.lkD; rw [if_pos e]; exact rfl
    rw [e] at c1
    clear h ok e
    cases up <;> simp only [bit] at c1
    all_goals go_enter Try.func41, Try.ntmps41
    all_goals go_wp2
    all_goals go_end0
    all_goals exact ⟨rfl, by rw [E.out]; exact H.out, But.refl _ _⟩
  · have E : Hid (D.lkD up = { D with r := upd (upd D.r 1 (bit up)) 6 (evor (D.r 6) 4) }) := by unfold Dev.lkD; rw [if_neg e]; exact rfl
    obtain ⟨x, hx⟩ : ∃ x, x = D.r 1 := ⟨_, rfl⟩
    rw [← hx] at c1 e
    clear h ok hx
    cases up with
    | true =>
      have q : (x != 1) = true := by simp [bit] at e; simp; omega
      clear e
      go_enter Try.func41, Try.ntmps41
      go_wp2_with fail
      refine (revent_any (H.out.setReg LR_ok 1 (by omega) 1) OK.out.ev 4 (by omega)).mono ?_
      rintro e w2 ⟨rfl, d2, b2⟩
      have D2 := hide d2
      have B2 := hide b2
      clear d2 b2
      go_wp2
      go_end0
      exact ⟨rfl, by rw [E.out]; exact D2.out, ((But.refl _ _).cellb _ _).trans B2.out⟩
    | false =>
      have q : (x != 0) = true := by simp [bit] at e; simp; omega
      clear e
      go_enter Try.func41, Try.ntmps41
      go_wp2_with fail
      refine (revent_any (H.out.setReg LR_ok 1 (by omega) 0) OK.out.ev 4 (by omega)).mono ?_
      rintro e w2 ⟨rfl, d2, b2⟩
      have D2 := hide d2
      have B2 := hide b2
      clear d2 b2
      go_wp2
      go_end0
      exact ⟨rfl, by rw [E.out]; exact D2.out, ((But.refl _ _).cellb _ _).trans B2.out⟩

theorem spot_ne {h t j : Nat} (hh : h < 16) (ht : t < 16) (hj : j ≤ span h t) (e : (h + j) % 16 ≠ t) : j < span h t := by
  unfold span at *; omega
theorem devices_any (i h t : Nat) (hi : i < 16) (hh : h < 16) (ht : t < 16) (w : World) :
    Calls Try.prog 93 #[.int .i64 (i : Int), .int .i64 (h : Int), .int .i64 (t : Int)] w fun e w' => e = .returned (.bool (own h t i)) ∧ w' = w := by
  go_enter Try.func93, Try.ntmps93
  go_wp2
  go_loopw [7] (fun va wr => ∃ (a j : Nat), va = .int .i64 (a : Int) ∧ a < 16 ∧ j ≤ span h t ∧ a = (h + j) % 16 ∧ (∀ m, m < j → (h + m) % 16 ≠ i) ∧ wr = w) (fun va _ => span (intOf va).toNat t)
  case atStart => exact ⟨h, 0, rfl, hh, Nat.zero_le _, by omega, (fun m hm => by omega), rfl⟩
  case round =>
    obtain ⟨a, j, rfl, ha, hj, hat, hno, rfl⟩ := hrel
    have HAT := hide hat
    have HNO := hide hno
    have HJ := hide hj
    clear hat hno hj
    by_cases e : a = t
    · have q : ((a : Int) != (t : Int)) = false := by simp [e]
      have E := hide e
      clear e
      go_wp2
      go_ret
      refine ⟨?_, rfl⟩
      have : own h t i = false := by
        unfold own
        rw [decide_eq_false_iff_not]
        intro hlt
        have h1 := HAT.out; have h2 := HJ.out; have h3 := E.out
        have hjn : j = span h t := by unfold span at *; omega
        refine HNO.out ((i + 16 - h) % 16) ?_ ?_
        · rw [hjn]; exact hlt
        · omega
      rw [this]; rfl
    · have q : ((a : Int) != (t : Int)) = true := by simp; omega
      by_cases e2 : a = i
      · have q2 : ((a : Int) == (i : Int)) = true := by simp [e2]
        have E := hide e
        have E2 := hide e2
        clear e e2
        go_wp2
        go_ret
        refine ⟨?_, rfl⟩
        have : own h t i = true := by
          unfold own
          rw [decide_eq_true_iff]
          have h1 := HAT.out; have h2 := HJ.out; have h3 := E.out; have h4 := E2.out
          have := spot_ne hh ht h2 (by omega)
          unfold span at *; omega
        rw [this]; rfl
      · have q2 : ((a : Int) == (i : Int)) = false := by rw [beq_eq_false_iff_ne]; omega
        have E := hide e
        have E2 := hide e2
        clear e e2
        go_wp2
        go_roundw
        case rel => exact ⟨(a + 1) % 16, j + 1, by go_num, by omega, spot_ne hh ht HJ.out (by have := HAT.out; have := E.out; omega), by have := HAT.out; omega, (fun m hm => by
          by_cases e : m = j
          · subst e; have := HAT.out; have := E2.out; omega
          · exact HNO.out m (by omega)), trivial⟩
        case measure =>
          have := E.out
          simp [intOf]
          unfold span; omega

/-- 'append(nil, b...)' as one step of a region that draws -/
theorem step_grow {ops : Array Oper} {o : Oper} {a : Act} {w : World} {K : Act → World → Prop} {Q : Exit → Act → World → Prop} {E : Prop} (hg : o.guard = none) (x : Operand)
    (hop : o.op = Op.call { callee := Callee.builtin Builtin.append, args := #[.const (.slice none 0 0), x], argTypes := #[27, 27] }) (hty : o.type = 27)
    {A : Nat → Prop} (tv : Value) (ys : List Int) (hx : a.eval x = tv) (iy : IsF A w tv ys) (hl : ys.length ≤ 140737488355328)
    (hK : ∀ (a' : Option Addr) (cap' : Nat) (w' : World), Gro w.heap.size w' (.slice a' ys.length cap') ys → Below w.heap.size w w' → K (a.put o.dst (.slice a' ys.length cap')) w') :
    if Region.wanted o (yielded ops a.tmps) = true then Oper.wp Try.prog o a w K Q else E := by
  have hw : Region.wanted o (yielded ops a.tmps) = true := by simp [Region.wanted, hg]
  rw [if_pos hw]
  obtain ⟨v', w', hrun, g', b', _⟩ := append_run (Gro.nil w.heap.size w) iy (Nat.le_refl _) (by simpa using hl)
  rw [List.nil_append] at g'
  obtain ⟨a', cap', rfl, hle⟩ := g'.shape
  have hc : a.eval (.const (.slice none 0 0)) = .slice none 0 0 := rfl
  unfold Oper.wp
  simp only [execOp, hop, hty]
  simp [resolve, invoke, builtin, hx, hc, hrun, Result.andThen]
  exact hK a' cap' w' g' b'

end Go.Proofs.Ytjkfjijnjkpbbaa
