
/-
  Cancel.
-/
import Derived.Test.YtglbobobifejmaaQD
namespace Go.Proofs.Ytglbobobifejmaa
open Go.RowKit

def upd {α : Type} (f : Nat → α) (k : Nat) (v : α) : Nat → α := fun i => if i = k then v else f i
theorem upd_same {α : Type} (f : Nat → α) (k : Nat) (v : α) : upd f k v k = v := by unfold upd; rw [if_pos rfl]
theorem upd_other {α : Type} (f : Nat → α) (k i : Nat) (v : α) (h : i ≠ k) : upd f k v i = f i := by unfold upd; rw [if_neg h]
theorem flt_take (l : List (Int × Int)) (k : Nat) (hk : k ≤ l.length) : (flt l).take (k * 2) = flt (l.take k) := by
  have e : flt l = flt (l.take k) ++ flt (l.drop k) := by rw [← flt_append, List.take_append_drop]
  rw [e, List.take_append_of_le_length (by rw [flt_len, List.length_take]; omega), List.take_of_length_le (by rw [flt_len, List.length_take]; omega)]
theorem flt_drop (l : List (Int × Int)) (k : Nat) (hk : k ≤ l.length) : (flt l).drop (k * 2) = flt (l.drop k) := by
  have e : flt l = flt (l.take k) ++ flt (l.drop k) := by rw [← flt_append, List.take_append_drop]
  rw [e, List.drop_append_of_le_length (by rw [flt_len, List.length_take]; omega), List.drop_of_length_le (by rw [flt_len, List.length_take]; omega), List.nil_append]
theorem flt_one (l : List (Int × Int)) : ∀ u ∈ flt l, u.oneCell' = true := by
  intro u hu
  unfold flt at hu
  obtain ⟨p, _, hu⟩ := List.mem_flatMap.1 hu
  simp only [List.mem_cons, List.not_mem_nil, or_false] at hu
  rcases hu with rfl | rfl <;> rfl

section
variable {ρ : Nat → Nat} {w w' : World} {b : Nat} {now : Int} {V : Nat → Value} {SL : Nat → List (Int × Int)}
/-- one slot was changed in its block, and is stored -/
theorem WhAt.put (h : WhAt ρ w b now V SL) (s : Nat) (hs : s < 64) {v : Value} {l : List (Int × Int)} (hb : But (fun g => (V s).ownBlock = some g) w w') (hR : RowL w' v l) (hv : ∀ k, v.ownBlock = some k → (V s).ownBlock = some k) (hl : l.length ≤ 64) :
    WhAt ρ (w'.setCell ⟨b, 1 + s, none⟩ v) b now (upd V s v) (upd SL s l) := by
  have nb : (V s).ownBlock ≠ some b := fun e => by have := h.role s hs b e; have := h.rb; omega
  have hb2 : But (Only b) w' (w'.setCell ⟨b, 1 + s, none⟩ v) := (But.refl (Only b) w').setCell (p := ⟨b, 1 + s, none⟩) (.inr rfl) v
  have cb : ∀ j, j ≠ 1 + s → (w'.setCell ⟨b, 1 + s, none⟩ v).cell? ⟨b, j, none⟩ = w.cell? ⟨b, j, none⟩ := fun j hj =>
    (World.cell?_setCell_other _ _ _ _ (by intro q; cases q; exact hj rfl)).trans (hb.cell (p := ⟨b, j, none⟩) h.blt nb)
  refine ⟨fun g e => Nat.lt_of_lt_of_le (h.lt g e) (Nat.le_trans hb.size hb2.size), h.rb, (cb 0 (by omega)).trans h.now, fun t ht => ?_, fun t ht => ?_, fun t ht => ?_, fun i => ?_, fun t ht => ?_⟩
  · by_cases e : t = s
    · subst e; rw [upd_same]
      exact World.cell?_setCell_same' _ _ _ (by rw [hb.cell (p := ⟨b, 1 + t, none⟩) h.blt nb, h.cell t ht]; rfl)
    · rw [upd_other _ _ _ _ e]; exact (cb (1 + t) (by omega)).trans (h.cell t ht)
  · by_cases e : t = s
    · subst e; rw [upd_same, upd_same]
      exact hR.keep hb2 (fun k hk c => by have c : k = b := c; rw [c] at hk; exact nb (hv b hk))
    · rw [upd_other _ _ _ _ e, upd_other _ _ _ _ e]
      exact ((h.row t ht).keep hb (fun k hk c => by have h1 := h.role t ht k hk; have h2 := h.role s hs k c; omega)).keep hb2 (fun k hk c => by have c : k = b := c; rw [c] at hk; have h1 := h.role t ht b hk; have h2 := h.rb; omega)
  · by_cases e : t = s
    · subst e; rw [upd_same]; exact fun k hk => h.role t ht k (hv k hk)
    · rw [upd_other _ _ _ _ e]; exact h.role t ht
  · rw [World.frozen?_setCell]; exact (hb.frozen (p := ⟨b, i, none⟩) h.blt nb).trans (h.fz i)
  · by_cases e : t = s
    · subst e; rw [upd_same]; exact hl
    · rw [upd_other _ _ _ _ e]; exact h.len t ht
/-- what Cancel leaves -/
def CanEnd (ρ : Nat → Nat) (w : World) (b : Nat) (now : Int) (SL : Nat → List (Int × Int)) (id : Int) (e : Ending) (w' : World) : Prop :=
  (e = .returned (.int .i64 7) ∧ (∀ s, s < 64 → ∀ p ∈ SL s, p.1 ≠ id) ∧ (∃ V', WhAt ρ w' b now V' SL) ∧ But (fun g => ρ g ≠ 0) w w') ∨
  ∃ s j t, e = .returned (.int .i64 0) ∧ s < 64 ∧ (SL s)[j]? = some (id, t) ∧ (∃ V', WhAt ρ w' b now V' (upd SL s ((SL s).eraseIdx j))) ∧ But (fun g => ρ g ≠ 0) w w'
set_option maxRecDepth 100000 in
set_option maxHeartbeats 4000000 in
theorem wCancel_any (h : WhAt ρ w b now V SL) (id : Int) : Calls Try.prog 13 #[.pointer (some ⟨b, 0, none⟩), .int .i64 id] w (CanEnd ρ w b now SL id) := by
  have H := hide h
  clear h
  go_enter Try.func13, Try.ntmps13
  go_wp2
  go_loopw [7] (fun u wr => ∃ (k : Nat), u = .int .i64 (k : Int) ∧ k ≤ 64 ∧ Hid (Below w.heap.size w wr) ∧ Hid (∀ s, s < k → ∀ p ∈ SL s, p.1 ≠ id)) (fun u _ => 64 - (intOf u).toNat)
  case atStart => exact ⟨0, rfl, by omega, Below.refl _ _, fun s hs => by omega⟩
  case round =>
    obtain ⟨k, rfl, hk, hB, hN⟩ := hrel
    by_cases hlt : k < 64
    · have zk : (k : Int) < 64 := by omega
      have h1 := H.out.later hB.out
      have cv := h1.cell k hlt
      have hr := h1.row k hlt
      have hl := H.out.len k hlt
      have X := hide (find_any hr (by omega) id)
      obtain ⟨a, c, e, hg⟩ := hr.shape
      have HE := hide e
      have HR := hide hr
      rw [e] at cv X HR
      clear e hr h1
      go_wp2_with fail
      refine X.out.mono ?_
      rintro _ w3 ⟨rfl, hb3⟩
      have B3 := hide (hB.out.trans (hb3.mono hB.out.size))
      have R3 := hide (HR.out.later hb3)
      have H3 := hide (H.out.later B3.out)
      clear hb3 X cv HR
      by_cases hf : 0 ≤ fnd (SL k) id
      · obtain ⟨j, t, ej, hj⟩ := fnd_yes hf
        have hjl := (List.getElem?_eq_some_iff.1 hj).1
        obtain ⟨g, rfl⟩ := hg (by omega)
        rw [ej]
        obtain ⟨m, hm⟩ : ∃ m, (SL k).length = j + 1 + m := ⟨(SL k).length - (j + 1), by omega⟩
        have cv := H3.out.cell k hlt
        rw [HE.out, hm] at cv
        have fz := H3.out.fz (1 + k)
        have XD := Delete_any (k := j) (m := m) (xs := flt (SL k)) (by have := R3.out; unfold RowL at this; rw [hm] at this; exact this) (flt_one _)
        rw [flt_take _ _ (by omega), flt_drop _ _ (by omega), ← flt_append, ← List.eraseIdx_eq_take_drop_succ] at XD
        have XD2 := hide (fun (W : World) (hb : Below w3.heap.size w3 W) => Delete_any (w := W) (k := j) (m := m) (xs := flt (SL k)) (by have := R3.out.later hb; unfold RowL at this; rw [hm] at this; exact this) (flt_one _))
        have zj : (j : Int) < 64 := by omega
        have zc : (j : Int) ≤ 64 := by omega
        have FIN : Hid (∀ (W : World), w3.drew.heap.size ≤ W.heap.size → W.ownsRow 0 49 2 (.slice (some ⟨g, 0, none⟩) (j + m) c) (j + m) ((flt (SL k)).take (j * 2) ++ (flt (SL k)).drop ((j + 1) * 2)) → But (Only g) w3.drew W → (W.cell? ⟨b, 1 + k, none⟩).isSome = true ∧ W.frozen? ⟨b, 1 + k, none⟩ = false ∧ CanEnd ρ w b now SL id (.returned (.int .i64 0)) (W.setCell ⟨b, 1 + k, none⟩ (.slice (some ⟨g, 0, none⟩) (j + m) c))) := by
          intro W _ ho hbt
          have hd : Below w3.heap.size w3 w3.drew := ⟨rfl, rfl, rfl, Nat.le_refl _, fun _ _ => rfl⟩
          have H4 := H3.out.later hd
          have hgr : ρ g = 100 + k := H.out.role k hlt g (by rw [HE.out]; rfl)
          have nbg : ¬ Only g b := fun e => by have e : b = g := e; have := H.out.rb; rw [e] at this; omega
          have hlE : ((SL k).eraseIdx j).length = j + m := by rw [List.length_eraseIdx, if_pos hjl]; omega
          have hp := H4.put k hlt (w' := W) (v := .slice (some ⟨g, 0, none⟩) (j + m) c) (l := (SL k).eraseIdx j) (hbt.mono (fun x e => by have e : x = g := e; rw [HE.out, e]; rfl)) (by
            unfold RowL
            rw [hlE, List.eraseIdx_eq_take_drop_succ, flt_append, ← flt_take _ _ (by omega), ← flt_drop _ _ (by omega)]; exact ho) (fun x e => by rw [HE.out]; exact e) (by omega)
          refine ⟨by rw [hbt.cell (p := ⟨b, 1 + k, none⟩) H4.blt nbg, H4.cell k hlt]; rfl, (hbt.frozen (p := ⟨b, 1 + k, none⟩) H4.blt nbg).trans (H4.fz _), .inr ⟨k, j, t, rfl, hlt, hj, ⟨_, hp⟩, ?_⟩⟩
          have b1 : But (fun g => ρ g ≠ 0) w w3.drew := (But.of_below B3.out).drew
          have b2 : But (fun g => ρ g ≠ 0) w3.drew W := hbt.mono (fun x e => by have e : x = g := e; rw [e, hgr]; omega)
          exact (b1.trans b2).setCell (p := ⟨b, 1 + k, none⟩) (.inr (by show ρ b ≠ 0; rw [H.out.rb]; omega)) _
        clear hf ej hg XD
        have XD3 := hide (XD2.out w3.drew ⟨rfl, rfl, rfl, Nat.le_refl _, fun _ _ => rfl⟩)
        have hj1 : IntKind.i64.wrap ((j : Int) + 1) = (j : Int) + 1 := by simp only [IntKind.wrap, IntKind.signed, IntKind.bits]; simp; omega
        clear XD2 hm
        go_upto_region 6 with fail
        go_region_with (go_at_call 27; refine XD3.out.mono ?_; rintro _ w4 ⟨rfl, ho, hbt⟩; obtain ⟨s1, s2, s3⟩ := FIN.out w4 hbt.size ho hbt; obtain ⟨uu, hu⟩ := Option.isSome_iff_exists.1 s1; have S3 := hide s3; clear ho hbt s1 s3)
        all_goals
          go_wp2
          go_ret
          exact S3.out
      · have HNF := hide (fnd_no hf)
        generalize fnd (SL k) id = ff at *
        have zf : ¬ (0 : Int) ≤ ff := hf
        go_wp2
        go_roundw
        case rel => exact ⟨k + 1, by go_num, by omega, B3.out, fun s hs => by
          by_cases e : s = k
          · rw [e]; exact HNF.out
          · exact hN.out s (by omega)⟩
        case measure => simp [intOf]; omega
    · obtain rfl : k = 64 := by omega
      have FF : Hid (CanEnd ρ w b now SL id (.returned (.int .i64 7)) wr) := .inl ⟨rfl, hN.out, ⟨_, H.out.later hB.out⟩, But.of_below hB.out⟩
      go_wp2
      go_ret
      exact FF.out
end
end Go.Proofs.Ytglbobobifejmaa
