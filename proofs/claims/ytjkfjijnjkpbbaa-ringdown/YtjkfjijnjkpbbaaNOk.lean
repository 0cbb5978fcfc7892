
/-
  What holds of a device at any time is kept by every call.
-/
import Derived.Test.YtjkfjijnjkpbbaaNNic5
namespace Go.Proofs.Ytjkfjijnjkpbbaa
open Go.RowKit

theorem Dev.Ok.new : Dev.new.Ok := by
  refine ⟨.inl rfl, .inr rfl, fun k h1 h2 => ?_, ⟨by decide, by decide⟩, fun i _ => by simp [Dev.new], fun i _ => by simp [Dev.new], fun i _ => by simp [Dev.new]⟩
  rw [show Dev.new.r k = 0 from by simp only [Dev.new]; rw [upd_other _ _ _ _ (by omega)]]
  omega
theorem Dev.Ok.reset {D : Dev} (h : D.Ok) : D.reset.Ok := by
  refine ⟨.inl rfl, ?_, fun k h1 h2 => ?_, ⟨by simp [Dev.reset, upd], by simp [Dev.reset, upd]⟩, fun i _ => by simp [Dev.reset, Dev.new], fun i _ => by simp [Dev.reset, Dev.new], fun i _ => by simp [Dev.reset, Dev.new]⟩
  · simpa [Dev.reset, upd] using h.link
  · rw [show D.reset.r k = 0 from by simp only [Dev.reset]; rw [upd_other _ _ _ _ (by omega)]]
    omega
theorem Dev.Ok.setr {D : Dev} (h : D.Ok) (k : Nat) (x : Int) (h0 : k = 0 → x = 0 ∨ x = 1) (h1 : k = 1 → x = 0 ∨ x = 1) (h2 : 2 ≤ k → k ≤ 5 → 0 ≤ x ∧ x ≤ 15) (h6 : k = 6 → 0 ≤ x ∧ x ≤ 7) : Dev.Ok { D with r := upd D.r k x } := by
  refine ⟨?_, ?_, fun j a b => ?_, ?_, h.txf, h.room, h.rxf⟩
  · simp only [upd]; split
    · exact h0 (by omega)
    · exact h.ctl
  · simp only [upd]; split
    · exact h1 (by omega)
    · exact h.link
  · simp only [upd]; split
    · exact h2 (by omega) (by omega)
    · exact h.ring j a b
  · simp only [upd]; split
    · exact h6 (by omega)
    · exact h.ev
theorem Dev.Ok.rd {D : Dev} (h : D.Ok) (reg : Int) : (D.rdD reg).Ok := by
  unfold Dev.rdD; split
  · exact h.setr 6 0 (by omega) (by omega) (by omega) (by omega)
  · exact h
theorem Dev.Ok.wr {D : Dev} (h : D.Ok) (reg v : Int) : (D.wrD reg v).Ok := by
  unfold Dev.wrD
  split
  · exact h.reset
  · split
    · rename_i h1; exact h.setr 0 v (fun _ => h1.2) (by omega) (by omega) (by omega)
    · split
      · rename_i h1
        have := h1.2
        simp [place] at this
        exact h.setr 3 v (by omega) (by omega) (fun _ _ => by omega) (by omega)
      · split
        · rename_i h1
          have := h1.2
          simp [place] at this
          have h2 := h.setr 5 v (by omega) (by omega) (fun _ _ => by omega) (by omega)
          exact ⟨h2.ctl, h2.link, h2.ring, h2.ev, h2.txf, h2.room, h2.rxf⟩
        · exact h
theorem Dev.Ok.st {D : Dev} (h : D.Ok) (i : Int) (f : List Int) : (D.stD i f).Ok := by
  unfold Dev.stD; split
  · rename_i e
    refine ⟨h.ctl, h.link, h.ring, h.ev, fun j hj => ?_, h.room, h.rxf⟩
    simp only [upd]; split
    · unfold Dev.stE at e
      by_cases h1 : 274 < f.length
      · split at e
        · omega
        · split at e <;> omega
      · omega
    · exact h.txf j hj
  · exact h
theorem Dev.Ok.sr {D : Dev} (h : D.Ok) (i room : Int) : (D.srD i room).Ok := by
  unfold Dev.srD; split
  · rename_i e
    refine ⟨h.ctl, h.link, h.ring, h.ev, h.txf, fun j hj => ?_, fun j hj => ?_⟩
    · simp only [upd]; split
      · unfold Dev.srE at e
        split at e
        · omega
        · rename_i h1
          have : ¬ 65535 < room := fun h2 => h1 (.inr (.inr h2))
          omega
      · exact h.room j hj
    · simp only [upd]; split
      · simp
      · exact h.rxf j hj
  · exact h
theorem nxt_bd (x : Int) : 0 ≤ nxt x ∧ nxt x ≤ 15 := by unfold nxt; omega
theorem Dev.Ok.tk {D : Dev} (h : D.Ok) : D.tkD.Ok := by
  unfold Dev.tkD; split
  · have h1 := h.setr 4 (nxt (D.r 4)) (by omega) (by omega) (fun _ _ => nxt_bd _) (by omega)
    exact h1.setr 6 (evor (D.r 6) 2) (by omega) (by omega) (by omega) (fun _ => evor_bd _ _ h.ev.1 h.ev.2 (by omega))
  · exact h
theorem Dev.Ok.gv {D : Dev} (h : D.Ok) (f : List Int) (x : Bool) : (D.gvD f x).Ok := by
  unfold Dev.gvD; split
  · exact h
  · split
    · rename_i e
      have h1 := h.setr 2 (nxt (D.r 2)) (by omega) (by omega) (fun _ _ => nxt_bd _) (by omega)
      have h2 := h1.setr 6 (evor (D.r 6) 1) (by omega) (by omega) (by omega) (fun _ => evor_bd _ _ h.ev.1 h.ev.2 (by omega))
      refine ⟨h2.ctl, h2.link, h2.ring, h2.ev, h2.txf, h2.room, fun j hj => ?_⟩
      simp only [Dev.fill, upd]; split
      · rename_i ej
        have hr := h.room j hj
        unfold Dev.gvE at e
        split at e
        · split at e
          · omega
          · split at e
            · omega
            · rename_i h3
              rw [← ej] at h3
              omega
        · omega
      · exact h.rxf j hj
    · exact h.setr 7 _ (by omega) (by omega) (by omega) (by omega)
theorem Dev.Ok.lk {D : Dev} (h : D.Ok) (x : Bool) : (D.lkD x).Ok := by
  unfold Dev.lkD; split
  · exact h
  · have hb : bit x = 0 ∨ bit x = 1 := by cases x <;> simp [bit]
    have h1 := h.setr 1 (bit x) (by omega) (fun _ => hb) (by omega) (by omega)
    exact h1.setr 6 (evor (D.r 6) 4) (by omega) (by omega) (by omega) (fun _ => evor_bd _ _ h.ev.1 h.ev.2 (by omega))
theorem Dev.Ok.tick {D : Dev} (h : D.Ok) : D.tick.Ok := ⟨h.ctl, h.link, h.ring, h.ev, h.txf, h.room, h.rxf⟩

end Go.Proofs.Ytjkfjijnjkpbbaa
