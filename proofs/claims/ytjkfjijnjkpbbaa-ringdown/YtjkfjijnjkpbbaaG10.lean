
/-
  begin, New, Reset, Poll.
-/
import Derived.Test.YtjkfjijnjkpbbaaG9
namespace Go.Proofs.Ytjkfjijnjkpbbaa
open Go.RowKit

/-- a side without buffers -/
def sd0 : Sd := ⟨0, []⟩
/-- the device behind begin's two writes -/
def bgD (D : Dev) : Dev := (D.wrD 0 2).wrD 0 1
def bgF (n : Nat) (D : Dev) (B : Nat → Buf) : Fl := flF n ⟨bgD D, B, sd0⟩
theorem bgD_r (D : Dev) : (bgD D).r 2 = 0 ∧ (bgD D).r 3 = 0 ∧ (bgD D).r 4 = 0 ∧ (bgD D).r 5 = 0 ∧ (bgD D).r 0 = 1 ∧ (bgD D).r 1 = D.r 1 ∧ (bgD D).r 6 = 0 := by
  simp [bgD, Dev.wrD, Dev.reset, upd]

def z18 : List Value := List.replicate 18 (.int .i64 0)
theorem z18_one : ∀ v ∈ z18, v.oneCell' = true := by intro v hv; rw [List.eq_of_mem_replicate hv]; rfl
theorem zero_side (w : World) : Sem.run Try.prog (zeroValue 102) w = .ok (.agg z18.toArray) w := by kernel_rfl
theorem store_side {w : World} {g off : Nat} (hc : ∀ j, j < 18 → (w.cell? ⟨g, off + j, none⟩).isSome = true) (hf : ∀ k, w.frozen? ⟨g, k, none⟩ = false) : Sem.run Try.prog (storeCells ⟨g, off, none⟩ z18) w = .ok () (w.setCells g off z18) := by
  have hr := run_storeCells_cells (P := Try.prog) g off z18 0 w (fun j hj => by rw [Nat.add_zero]; exact hc j (by simpa [z18] using hj)) (fun j _ => hf _) z18_one
  rw [Nat.add_zero] at hr
  exact hr
theorem SdAt.isThere {W : World} {r o : Nat} {s : Sd} (h : SdAt W r o s) (j : Nat) (hj : j < 18) : (W.cell? ⟨r, o + j, none⟩).isSome = true := by
  by_cases h1 : j < 16
  · obtain ⟨x, e⟩ := h.cells j h1; rw [e]; rfl
  · by_cases h2 : j = 16
    · subst h2; rw [h.first]; rfl
    · have : j = 17 := by omega
      subst this; rw [h.many]; rfl
theorem SdAt.zero {W : World} {r o : Nat} {s : Sd} (h : SdAt W r o s) : SdAt (W.setCells r o z18) r o sd0 := by
  have key : ∀ j, j < 18 → (W.setCells r o z18).cell? ⟨r, o + j, none⟩ = some (.int .i64 0) := fun j hj => by
    have hz : j < z18.length := by simpa [z18] using hj
    rw [World.cell?_setCells_in r z18 o W (fun i hi => h.isThere i (by simpa [z18] using hi)) j hz]
    exact congrArg some (List.eq_of_mem_replicate (show z18[j] ∈ List.replicate 18 (Value.int .i64 0) from List.getElem_mem hz))
  exact ⟨by decide, by decide, key 16 (by omega), key 17 (by omega), fun i hi => ⟨0, key i (by omega)⟩, fun k hk => absurd hk (by simp [sd0])⟩
theorem Far.sets {r o : Nat} (w : World) : Far r o w (w.setCells r o z18) :=
  ⟨But.cells r z18 o w, fun k hk => setCells_out (by simpa [z18] using hk), fun k => World.frozen?_setCells ..⟩

section
variable {A : Nat → Prop} {w : World} {q : Bl} {n : Nat} {D : Dev} {B : Nat → Buf} {s c : Sd}

set_option maxRecDepth 100000 in
set_option maxHeartbeats 1000000 in
theorem begin_any (h : Prg A w q n D B s c) (ok : D.Ok) : Calls Try.prog 66 #[.pointer (some ⟨q.r, 0, none⟩)] w fun e w' => e = .returned (.tuple #[]) ∧ Prg A w' q n (bgF n D B).D (bgF n D B).B sd0 (bgF n D B).c ∧ But (PK q) w w' := by
  have X1 := hide (Write_any h.dev ok 0 2)
  have c0 := h.c0
  have H := hide h
  have OK := hide ok
  clear h ok
  go_enter Try.func66, Try.ntmps66
  go_wp2_with fail
  refine X1.out.mono ?_
  rintro _ w1 ⟨rfl, d1, b1⟩
  have P1 := hide (H.out.onDev b1 d1)
  have B1 : Hid (But (PK q) w w1) := b1.mono (fun g e => .inl e)
  have c01 := P1.out.c0
  have X2 := hide (Write_any P1.out.dev (OK.out.wr 0 2) 0 1)
  clear d1 b1 X1 H c0
  go_wp2_with fail
  refine X2.out.mono ?_
  rintro _ w2 ⟨rfl, d2, b2⟩
  have P2 := hide (P1.out.onDev b2 d2)
  have B2 : Hid (But (PK q) w w2) := B1.out.trans (b2.mono (fun g e => .inl e))
  clear d2 b2 X2 P1 c01 B1
  go_upto_region 2 with fail
  obtain ⟨Z, hZ⟩ : ∃ Z : Array Value, Z = z18.toArray := ⟨_, rfl⟩
  have hz := zero_side
  rw [← hZ] at hz
  have hs : Z.size = 18 := by rw [hZ]; simp [z18]
  have hne : ¬ Z = #[] := by intro e; rw [e] at hs; simp at hs
  have st1 := store_side (fun j hj => P2.out.s.isThere j hj) P2.out.fz
  have P3 := hide (P2.out.onS (Far.sets w2) P2.out.s.zero)
  have st2 := store_side (fun j hj => P3.out.c.isThere j hj) P3.out.fz
  have P4 := hide (P3.out.onC (Far.sets _) P3.out.c.zero)
  have B4 : Hid (But (PK q) w ((w2.setCells q.r 2 z18).setCells q.r 20 z18)) := B2.out.trans (((But.cells q.r z18 2 w2).trans (But.cells q.r z18 20 _)).mono (fun g e => .inr (.inr e)))
  have ez : Z.toList = z18 := by rw [hZ]
  have ST1 := hide st1
  have ST2 := hide st2
  have EZ := hide ez
  clear hZ st1 st2 P3 B2 ez P2
  go_wp2_with fail
  rw [EZ.out, ST1.out]
  go_wp2_with fail
  rw [EZ.out, ST2.out]
  have OKB : Hid (bgD D).Ok := (OK.out.wr 0 2).wr 0 1
  have FI := hide (fill_any (x := ⟨bgD D, B, sd0⟩) P4.out OKB.out (bgD_r D).1 (bgD_r D).2.1)
  obtain ⟨R, hR⟩ : ∃ R, R = bgF n D B := ⟨_, rfl⟩
  have HR : Hid (flF n ⟨bgD D, B, sd0⟩ = R) := hR.symm
  rw [HR.out] at FI
  clear P4 ST1 ST2
  generalize (w2.setCells q.r 2 z18).setCells q.r 20 z18 = w4 at *
  go_wp2_with fail
  refine FI.out.mono ?_
  rintro _ w5 ⟨rfl, p5, b5⟩
  have F5 : Hid (Prg A w5 q n (bgF n D B).D (bgF n D B).B sd0 (bgF n D B).c ∧ But (PK q) w w5) := ⟨by rw [← hR]; exact p5, B4.out.trans b5⟩
  clear p5 b5 FI hR HR
  go_wp2
  go_end0
  exact ⟨rfl, F5.out.1, F5.out.2⟩
end

theorem SdAt.new {W : World} {r o : Nat} (hc : ∀ j, j < 18 → W.cell? ⟨r, o + j, none⟩ = some (.int .i64 0)) : SdAt W r o sd0 :=
  ⟨by decide, by decide, hc 16 (by omega), hc 17 (by omega), fun i hi => ⟨0, hc i (by omega)⟩, fun k hk => absurd hk (by simp [sd0])⟩

set_option maxRecDepth 100000 in
set_option maxHeartbeats 1000000 in
theorem ringNew_any {A : Nat → Prop} {w : World} {d p g n : Nat} {D : Dev} {B : Nat → Buf} (hd : DevAt LN A w d D) (hp : PoolAt w p g n B) (hg : A g) (hdp : d ≠ p) (hdg : d ≠ g) (ok : D.Ok) :
    Calls Try.prog 32 #[.pointer (some ⟨d, 0, none⟩), .pointer (some ⟨p, 0, none⟩)] w fun e w' => e = .returned (.pointer (some ⟨w.heap.size, 0, none⟩)) ∧ Prg (fun x => A x ∨ x = w.heap.size) w' ⟨d, p, g, w.heap.size⟩ n (bgF n D B).D (bgF n D B).B sd0 (bgF n D B).c ∧ But (fun x => x = d ∨ x = g) w w' := by
  obtain ⟨Z, hZ⟩ : ∃ Z : Array Value, Z = (.pointer (some ⟨d, 0, none⟩) :: .pointer (some ⟨p, 0, none⟩) :: List.replicate 36 (.int .i64 0)).toArray := ⟨_, rfl⟩
  have EZ : Hid ((#[.pointer (some ⟨d, 0, none⟩), .pointer (some ⟨p, 0, none⟩), .int .i64 0, .int .i64 0, .int .i64 0, .int .i64 0, .int .i64 0, .int .i64 0, .int .i64 0, .int .i64 0, .int .i64 0, .int .i64 0, .int .i64 0, .int .i64 0, .int .i64 0, .int .i64 0, .int .i64 0, .int .i64 0, .int .i64 0, .int .i64 0, .int .i64 0, .int .i64 0, .int .i64 0, .int .i64 0, .int .i64 0, .int .i64 0, .int .i64 0, .int .i64 0, .int .i64 0, .int .i64 0, .int .i64 0, .int .i64 0, .int .i64 0, .int .i64 0, .int .i64 0, .int .i64 0, .int .i64 0, .int .i64 0] : Array Value) = Z) := by rw [hZ]; rfl
  have bA : But (fun _ => False) w (w.alloc (.cells Z 104)) := (But.refl _ _).alloc _
  have cz : ∀ k v, Z[k]? = some v → (w.alloc (.cells Z 104)).cell? ⟨w.heap.size, k, none⟩ = some v := fun k v hv => by
    rw [cell_of_row _ w.heap.size k _ 104 (0, 0) (heap_alloc_new w _)]; exact hv
  have cs : ∀ j, j < 36 → Z[2 + j]? = some (.int .i64 0) := fun j hj => by
    rw [hZ, List.getElem?_toArray, show 2 + j = j + 1 + 1 by omega, List.getElem?_cons_succ, List.getElem?_cons_succ, List.getElem?_replicate, if_pos hj]
  have z0 : Z[0]? = some (.pointer (some ⟨d, 0, none⟩)) := by rw [hZ]; rfl
  have z1 : Z[1]? = some (.pointer (some ⟨p, 0, none⟩)) := by rw [hZ]; rfl
  have hdl := hd.lt
  have hpl := hp.blt
  have hgl := hp.glt
  have P0 : Prg (fun x => A x ∨ x = w.heap.size) (w.alloc (.cells Z 104)) ⟨d, p, g, w.heap.size⟩ n D B sd0 sd0 :=
    ⟨(hd.avoid (fun x hx e => e.elim id (fun e => by omega)) (.inl hd.mem)).but bA (fun _ e => e.elim) id, hp.but bA id id, cz 0 _ z0, cz 1 _ z1,
      SdAt.new (fun j hj => cz _ _ (cs j (by omega))), SdAt.new (fun j hj => by have := cz _ _ (cs (18 + j) (by omega)); rw [show 2 + (18 + j) = 20 + j by omega] at this; exact this), fun k => frozen_new _ _ _ _, .inl hg, .inr rfl, hdp, hdg, by show d ≠ w.heap.size; omega, by show p ≠ w.heap.size; omega, by show g ≠ w.heap.size; omega⟩
  have X := hide (begin_any P0 ok)
  have B0 : Hid (But (fun x => x = d ∨ x = g) w (w.alloc (.cells Z 104))) := bA.mono (fun _ e => e.elim)
  obtain ⟨R, hR⟩ : ∃ R, R = bgF n D B := ⟨_, rfl⟩
  rw [← hR] at X ⊢
  clear hZ bA cz cs P0 hd hp ok hR z0 z1
  go_enter Try.func32, Try.ntmps32
  go_wp2_with fail
  rw [EZ.out]
  refine X.out.mono ?_
  rintro _ w5 ⟨rfl, p5, b5⟩
  have P5 := hide p5
  have B5 : Hid (But (fun x => x = d ∨ x = g) w w5) := B0.out.trans' b5 (fun x hx e => by
    rcases e with e | e | e
    · exact .inl e
    · exact .inr e
    · have e : x = w.heap.size := e
      omega)
  clear p5 b5 X B0
  go_wp2
  go_ret
  exact ⟨rfl, P5.out, B5.out⟩
end Go.Proofs.Ytjkfjijnjkpbbaa
