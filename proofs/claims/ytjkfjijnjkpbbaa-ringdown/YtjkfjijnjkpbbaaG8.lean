
/-
  Send.
-/
import Derived.Test.YtjkfjijnjkpbbaaG7
namespace Go.Proofs.Ytjkfjijnjkpbbaa
open Go.RowKit

theorem undrew0 {n : Nat} {w w' : World} (h : Below n w w') : Below n w w'.drew := ⟨h.os, h.tape, h.output, h.size, h.block⟩
theorem undrewK {n k : Nat} {w w' : World} (h : Below n w w') : Below n w (w'.drew.drewN k) := ⟨h.os, h.tape, h.output, h.size, h.block⟩
theorem undrewK0 {n k : Nat} {w w' : World} (h : Below n w w') : Below n w (w'.drewN k) := ⟨h.os, h.tape, h.output, h.size, h.block⟩
/-- what Send posts, answers, and leaves -/
def fr (B : Nat → Buf) (id : Int) : List Int := (B id.toNat).head ++ (B id.toNat).data
def sdE (n : Nat) (D : Dev) (B : Nat → Buf) (s : Sd) (id : Int) : Int := if usd n B id = true then (if D.r 1 = 0 then 20 else if s.ids.length = 15 then 21 else D.stE s.nx (fr B id)) else 7
def sdD (n : Nat) (D : Dev) (B : Nat → Buf) (s : Sd) (id : Int) : Dev := if sdE n D B s id = 0 then (D.stD s.nx (fr B id)).wrD 5 ((s.put id).nx : Int) else D
def sdB (n : Nat) (D : Dev) (B : Nat → Buf) (s : Sd) (id : Int) : Nat → Buf := if sdE n D B s id = 0 then hoB n B id else B
def sdS (n : Nat) (D : Dev) (B : Nat → Buf) (s : Sd) (id : Int) : Sd := if sdE n D B s id = 0 then s.put id else s

section
variable {A : Nat → Prop} {w : World} {q : Bl} {n : Nat} {D : Dev} {B : Nat → Buf} {s c : Sd}

set_option maxRecDepth 100000 in
theorem Send_none (h : Prg A w q n D B s c) (id : Int) (hu : usd n B id = false) : Calls Try.prog 13 #[.pointer (some ⟨q.r, 0, none⟩), .int .i64 id] w fun e w' => e = .returned (.int .i64 7) ∧ Below w.heap.size w w' := by
  have X := hide (See_no h.pool id hu)
  have c1 := h.c1
  clear h
  go_enter Try.func13, Try.ntmps13
  go_wp2_with fail
  refine X.out.mono ?_
  rintro _ w1 ⟨rfl, hb⟩
  have HB : Hid (Below w.heap.size w (w1.alloc (.cells #[.int .i64 0, .slice none 0 0, .slice none 0 0] 35))) := hb.alloc hb.size _
  clear hb X
  go_wp2
  go_ret
  exact ⟨rfl, HB.out⟩

set_option maxRecDepth 100000 in
theorem Send_off (h : Prg A w q n D B s c) (i : Nat) (hi : i < n) (hr : 0 < (B i).refs) (hd : D.r 1 = 0) : Calls Try.prog 13 #[.pointer (some ⟨q.r, 0, none⟩), .int .i64 (i : Int)] w fun e w' => e = .returned (.int .i64 20) ∧ Prg A w' q n D B s c ∧ But (PK q) w w' := by
  have X := hide (See_yes h.pool i hi hr)
  have c1 := h.c1
  have H := hide h
  clear h
  go_enter Try.func13, Try.ntmps13
  go_wp2_with fail
  refine X.out.mono ?_
  rintro _ w1 ⟨ha, hc, da, dc, rfl, _, hb⟩
  generalize (B i).head.length = lh at *
  generalize (B i).data.length = ld at *
  generalize (B i).refs = rf at *
  have P1 := hide ((H.out.later hb).al (.cells #[.int .i64 (rf : Int), .slice ha lh hc, .slice da ld dc] 35))
  have B1 : Hid (But (PK q) w (w1.alloc (.cells #[.int .i64 (rf : Int), .slice ha lh hc, .slice da ld dc] 35))) := (But.of_below hb).alloc _
  have XR := hide (read_any P1.out 1)
  rw [show D.rdV 1 = 0 from (rdV_of D 1 (by omega)).trans hd, rdD_of D 1 (by omega)] at XR
  clear hb X H
  go_wp2_with fail
  refine XR.out.mono ?_
  rintro _ w2 ⟨rfl, p2, b2⟩
  have P2 := hide p2
  have B2 := hide (B1.out.trans (b2.mono (fun g e => .inl e)))
  clear p2 b2 XR P1 B1 c1 hd
  go_wp2
  go_ret
  exact ⟨rfl, P2.out, B2.out⟩

set_option maxRecDepth 100000 in
theorem Send_full (h : Prg A w q n D B s c) (i : Nat) (hi : i < n) (hr : 0 < (B i).refs) (hd : D.r 1 = 1) (hs : s.ids.length = 15) : Calls Try.prog 13 #[.pointer (some ⟨q.r, 0, none⟩), .int .i64 (i : Int)] w fun e w' => e = .returned (.int .i64 21) ∧ Prg A w' q n D B s c ∧ But (PK q) w w' := by
  have X := hide (See_yes h.pool i hi hr)
  have c1 := h.c1
  have H := hide h
  have HS := hide hs
  clear h hs
  go_enter Try.func13, Try.ntmps13
  go_wp2_with fail
  refine X.out.mono ?_
  rintro _ w1 ⟨ha, hc, da, dc, rfl, _, hb⟩
  generalize (B i).head.length = lh at *
  generalize (B i).data.length = ld at *
  generalize (B i).refs = rf at *
  have P1 := hide ((H.out.later hb).al (.cells #[.int .i64 (rf : Int), .slice ha lh hc, .slice da ld dc] 35))
  have B1 : Hid (But (PK q) w (w1.alloc (.cells #[.int .i64 (rf : Int), .slice ha lh hc, .slice da ld dc] 35))) := (But.of_below hb).alloc _
  have XR := hide (read_any P1.out 1)
  rw [show D.rdV 1 = 1 from (rdV_of D 1 (by omega)).trans hd, rdD_of D 1 (by omega)] at XR
  clear hb X H
  go_wp2_with fail
  refine XR.out.mono ?_
  rintro _ w2 ⟨rfl, p2, b2⟩
  have P2 := hide p2
  have B2 := hide (B1.out.trans (b2.mono (fun g e => .inl e)))
  have XM := hide (Room_any p2)
  rw [HS.out] at XM
  clear p2 b2 XR P1 B1 c1 hd
  go_wp2_with fail
  refine XM.out.mono ?_
  rintro _ _ ⟨rfl, rfl⟩
  clear XM
  go_wp2
  go_ret
  exact ⟨rfl, P2.out, B2.out⟩

set_option maxRecDepth 100000 in
set_option maxHeartbeats 1000000 in
theorem Send_try (h : Prg A w q n D B s c) (ok : D.Ok) (hA : ∀ g, A g → g < w.heap.size) (i : Nat) (hi : i < n) (hr : 0 < (B i).refs) (hd : D.r 1 = 1) (hs : s.ids.length < 15) (hm : (B i).refs < 4611686018427387904) (E : Int) (hE : D.stE s.nx (fr B (i : Int)) = E) :
    Calls Try.prog 13 #[.pointer (some ⟨q.r, 0, none⟩), .int .i64 (i : Int)] w fun e w' => e = .returned (.int .i64 E) ∧ Prg A w' q n (if E = 0 then (D.stD s.nx (fr B (i : Int))).wrD 5 ((s.put (i : Int)).nx : Int) else D) (if E = 0 then hoB n B (i : Int) else B) (if E = 0 then s.put (i : Int) else s) c ∧ But (PK q) w w' := by
  have X := hide (See_yes h.pool i hi hr)
  have c1 := h.c1
  have H := hide h
  have HS := hide hs
  have OK := hide ok
  have HA := hide hA
  have HE := hide hE
  have HM := hide hm
  have LH := hide (h.pool.buf i hi).hle
  have LD := hide (h.pool.buf i hi).dle
  have FR : Hid (fr B (i : Int) = (B i).head ++ (B i).data) := rfl
  obtain ⟨D', hD'⟩ : ∃ x, x = (if E = 0 then (D.stD s.nx (fr B (i : Int))).wrD 5 ((s.put (i : Int)).nx : Int) else D) := ⟨_, rfl⟩
  obtain ⟨B', hB'⟩ : ∃ x, x = (if E = 0 then hoB n B (i : Int) else B) := ⟨_, rfl⟩
  obtain ⟨s', hs'⟩ : ∃ x, x = (if E = 0 then s.put (i : Int) else s) := ⟨_, rfl⟩
  rw [← hD', ← hB', ← hs']
  have HD' := hide hD'
  have HB' := hide hB'
  have HS' := hide hs'
  clear hD' hB' hs'
  have hrl := h.rlt
  have mg := hide h.ag
  have mr := hide h.ar
  have md := hide h.dev.mem
  have XHO : Hid (∀ W D2, Prg A W q n D2 B s c → Calls Try.prog 54 #[.pointer (some ⟨q.p, 0, none⟩), .int .i64 (i : Int)] W fun e w' => e = .returned (.int .i64 (hoE n B (i : Int))) ∧ Prg A w' q n D2 (hoB n B (i : Int)) s c ∧ But (Only q.g) W w') := fun W D2 p => (Hold_any p.pool (i : Int) hm).mono (by rintro e w' ⟨rfl, hp, hb⟩; exact ⟨rfl, p.onPool hb hp, hb⟩)
  clear h hs ok hA hE hm
  go_enter Try.func13, Try.ntmps13
  go_wp2_with fail
  refine X.out.mono ?_
  rintro _ w1 ⟨ha, hc, da, dc, rfl, hsn, hb⟩
  obtain ⟨hd_, ehd⟩ : ∃ x, x = (B i).head := ⟨_, rfl⟩
  obtain ⟨dt, edt⟩ : ∃ x, x = (B i).data := ⟨_, rfl⟩
  have sh := hsn.h
  have sd := hsn.d
  rw [← ehd] at sh
  rw [← edt] at sd
  rw [← ehd] at LH
  rw [← edt] at LD
  rw [← ehd, ← edt] at FR ⊢
  clear hsn ehd edt
  generalize (B i).refs = rf at *
  obtain ⟨w1', hw1'⟩ : ∃ w1', w1' = w1.alloc (.cells #[.int .i64 (rf : Int), .slice ha hd_.length hc, .slice da dt.length dc] 35) := ⟨_, rfl⟩
  have P1 := hide ((H.out.later hb).al (.cells #[.int .i64 (rf : Int), .slice ha hd_.length hc, .slice da dt.length dc] 35))
  have B1 : Hid (But (PK q) w (w1.alloc (.cells #[.int .i64 (rf : Int), .slice ha hd_.length hc, .slice da dt.length dc] 35))) := (But.of_below hb).alloc _
  have cB : ∀ k v, (#[Value.int .i64 (rf : Int), .slice ha hd_.length hc, .slice da dt.length dc] : Array Value)[k]? = some v → (w1.alloc (.cells #[.int .i64 (rf : Int), .slice ha hd_.length hc, .slice da dt.length dc] 35)).cell? ⟨w1.heap.size, k, none⟩ = some v := fun k v hv => by
    rw [cell_of_row _ w1.heap.size k _ 35 (0, 0) (heap_alloc_new w1 _)]; exact hv
  have e1 : (w1.alloc (.cells #[.int .i64 (rf : Int), .slice ha hd_.length hc, .slice da dt.length dc] 35)).cell? ⟨w1.heap.size, 1, none⟩ = some (.slice ha hd_.length hc) := cB 1 _ rfl
  have e2 : (w1.alloc (.cells #[.int .i64 (rf : Int), .slice ha hd_.length hc, .slice da dt.length dc] 35)).cell? ⟨w1.heap.size, 2, none⟩ = some (.slice da dt.length dc) := cB 2 _ rfl
  have bA : But (fun _ => False) w1 (w1.alloc (.cells #[.int .i64 (rf : Int), .slice ha hd_.length hc, .slice da dt.length dc] 35)) := (But.refl _ _).alloc _
  have I1 := hide ((sh.isF (A := PK q) (fun g hg e => by rcases e with e | e | e <;> subst e; exact absurd H.out.dev.lt (by omega); exact absurd H.out.pool.glt (by omega); omega)).but bA (fun _ e => e.elim))
  have I2 := hide ((sd.isF (A := PK q) (fun g hg e => by rcases e with e | e | e <;> subst e; exact absurd H.out.dev.lt (by omega); exact absurd H.out.pool.glt (by omega); omega)).but bA (fun _ e => e.elim))
  have nr : q.r < w1.heap.size := (H.out.later hb).rlt
  have nd : q.d < w1.heap.size := (H.out.later hb).dev.lt
  have ng : q.g < w1.heap.size := (H.out.later hb).pool.glt
  clear c1
  go_upto_region 4 with fail
  rw [← hw1'] at P1 B1 e1 e2 I1 I2 ⊢
  have sz1 : w1.heap.size < w1'.heap.size := by rw [hw1']; simp
  clear hw1' bA cB sh sd hb X H
  have XR := hide (read_any P1.out 1)
  rw [show D.rdV 1 = 1 from (rdV_of D 1 (by omega)).trans hd, rdD_of D 1 (by omega)] at XR
  go_wp2_with fail
  refine XR.out.mono ?_
  rintro _ w2 ⟨rfl, p2, b2⟩
  have P2 := hide p2
  have B2 := hide (B1.out.trans (b2.mono (fun g e => .inl e)))
  have nK : ¬ Only q.d w1.heap.size := fun e => by have e : w1.heap.size = q.d := e; omega
  have e1' := (b2.cell (p := ⟨w1.heap.size, 1, none⟩) sz1 nK).trans e1
  have e2' := (b2.cell (p := ⟨w1.heap.size, 2, none⟩) sz1 nK).trans e2
  have I12 := hide (I1.out.but b2 (fun g e => .inl e))
  have I22 := hide (I2.out.but b2 (fun g e => .inl e))
  have sz2 : w1.heap.size < w2.heap.size := Nat.lt_of_lt_of_le sz1 b2.size
  have XM := hide (Room_any p2)
  have zl : (s.ids.length : Int) < 15 := by have := HS.out; omega
  have z0 : ((15 : Int) - (s.ids.length : Int) == 0) = false := by rw [beq_eq_false_iff_ne]; omega
  clear p2 b2 XR P1 B1 hd e1 e2 I1 I2 nK
  go_wp2_with fail
  refine XM.out.mono ?_
  rintro _ w2' ⟨rfl, hw⟩
  subst hw
  clear XM
  go_upto_region 8 with fail
  clear z0 zl
  have c0 := P2.out.c0
  have nx16 : s.nx < 16 := Nat.mod_lt _ (by omega)
  obtain ⟨F, eF⟩ : ∃ F, F = hd_ ++ dt := ⟨_, rfl⟩
  have HFR : Hid (fr B (i : Int) = F) := by rw [eF]; exact FR.out
  have HE2 : Hid (D.stE (s.nx : Int) F = E) := by rw [← HFR.out]; exact HE.out
  have EF := hide eF
  clear eF
  have rlt2 := P2.out.rlt
  have ne1 : q.d ≠ q.r := P2.out.dr
  have keepS : Hid (∀ W : World, But (Only q.d) w2' W → (W.cell? ⟨q.r, 0, none⟩ = some (.pointer (some ⟨q.d, 0, none⟩)) ∧ W.cell? ⟨w1.heap.size, 1, none⟩ = some (.slice ha hd_.length hc) ∧ W.cell? ⟨w1.heap.size, 2, none⟩ = some (.slice da dt.length dc))) := fun W hb =>
    ⟨(hb.cell (p := ⟨q.r, 0, none⟩) rlt2 (fun e => ne1 (Eq.symm e))).trans c0, (hb.cell (p := ⟨w1.heap.size, 1, none⟩) sz2 (fun e => by have e : w1.heap.size = q.d := e; omega)).trans e1', (hb.cell (p := ⟨w1.heap.size, 2, none⟩) sz2 (fun e => by have e : w1.heap.size = q.d := e; omega)).trans e2'⟩
  have XC : Hid (∀ W g, Below w2'.heap.size w2' W → W.cell? ⟨g, 0, none⟩ = some (.slice ha hd_.length hc) → W.cell? ⟨g, 1, none⟩ = some (.slice da dt.length dc) → Calls Try.prog 53 #[.slice (some ⟨g, 0, none⟩) 2 2] W fun e w' => ∃ a c, e = .returned (.slice a F.length c) ∧ Gro w2'.heap.size w' (.slice a F.length c) F ∧ Below w2'.heap.size w2' w') := fun W g bA k0 k1 => by
    refine (Concat_any k0 k1 (I12.out.later bA) (I22.out.later bA) (by have := LH.out; omega) (by have := LD.out; omega)).mono ?_
    rintro e w' ⟨a, c, rfl, hg, hb⟩
    rw [← EF.out] at hg ⊢
    exact ⟨a, c, rfl, hg.low bA.size, bA.trans (hb.mono bA.size)⟩
  have CC : Hid (∀ W : World, Below w2'.heap.size w2' W → Below w2'.heap.size w2' (W.alloc (.cells #[.slice ha hd_.length hc, .slice da dt.length dc] 27)) ∧ (W.alloc (.cells #[.slice ha hd_.length hc, .slice da dt.length dc] 27)).cell? ⟨W.heap.size, 0, none⟩ = some (.slice ha hd_.length hc) ∧ (W.alloc (.cells #[.slice ha hd_.length hc, .slice da dt.length dc] 27)).cell? ⟨W.heap.size, 1, none⟩ = some (.slice da dt.length dc)) := fun W hb => by
    refine ⟨hb.alloc hb.size _, ?_, ?_⟩
    · rw [cell_of_row _ W.heap.size 0 _ 27 (0, 0) (heap_alloc_new W _)]; rfl
    · rw [cell_of_row _ W.heap.size 1 _ 27 (0, 0) (heap_alloc_new W _)]; rfl
  have C0 := hide (CC.out w2' (Below.refl _ _))
  have NX : Hid (∀ W, Below w2'.heap.size w2' W → Calls Try.prog 52 #[.pointer (some ⟨q.r, 2, none⟩)] W fun e w' => e = .returned (.int .i64 (s.nx : Int)) ∧ ∃ k, w' = W.drewN k) := fun W hb => next_any (P2.out.later hb).s
  have XT : Hid (∀ W v, Below w2'.heap.size w2' W → Gro w2'.heap.size W v F → Calls Try.prog 51 #[.pointer (some ⟨q.d, 0, none⟩), .int .i64 (s.nx : Int), v] W fun e w' => e = .returned (.int .i64 E) ∧ Prg A w' q n (D.stD (s.nx : Int) F) B s c ∧ But (Only q.d) w2' w') := fun W v hb hg => by
    have P := P2.out.later hb
    refine (SetTx_any P.dev OK.out (fun g hg => Nat.lt_of_lt_of_le (HA.out g hg) (Nat.le_trans B2.out.size hb.size)) (s.nx : Int) v _ (hg.isF (A := fun _ => False) (fun _ _ e => e)) (by rw [EF.out, List.length_append]; have := LH.out; have := LD.out; omega)).mono ?_
    rintro e w' ⟨rfl, hd, hbd⟩
    exact ⟨by rw [HE2.out], P.onDev hbd hd, (But.of_below hb).trans hbd⟩
  clear I12 I22 LH LD
  have q2 : But (Only q.d) w2' w2'.drew := (But.refl _ _).drew
  go_cut [7] (fun v7 wc => v7 = .int .i64 E ∧ Hid (Prg A wc q n (D.stD (s.nx : Int) F) B s c ∧ But (Only q.d) w2' wc))
  case first =>
    go_region_held (fun W => W.cell? ⟨q.r, 0, none⟩ = some (.pointer (some ⟨q.d, 0, none⟩)) ∧ W.cell? ⟨w1.heap.size, 1, none⟩ = some (.slice ha hd_.length hc) ∧ W.cell? ⟨w1.heap.size, 2, none⟩ = some (.slice da dt.length dc)) (first | exact keepS.out _ (by assumption) | exact keepS.out _ (But.of_below (by assumption)) | exact keepS.out _ (But.of_below C0.out.1) | exact keepS.out _ (But.of_below (undrew0 C0.out.1)) | exact keepS.out _ (But.of_below (CC.out _ (by assumption)).1))
      (first
        | (go_at_call 52; with_reducible refine (NX.out w2'.drew (undrew0 (Below.refl _ _))).mono ?_; rintro _ w3 ⟨rfl, k, hk⟩; have q3 : Below w2'.heap.size w2' w3 := (by rw [hk]; exact undrewK (Below.refl _ _)); clear hk)
        | (go_at_call 52; refine (NX.out w4 q4).mono ?_; rintro _ w5 ⟨rfl, k, hk⟩; have q5 : Below w2'.heap.size w2' w5 := (by rw [hk]; exact undrewK0 q4); have G5 : Hid (Gro w2'.heap.size w5 (.slice fa F.length fc) F) := (by rw [hk]; exact G4.out); clear hk)
        | (go_at_call 52; refine (NX.out (w2'.alloc (.cells #[.slice ha hd_.length hc, .slice da dt.length dc] 27)).drew (undrew0 C0.out.1)).mono ?_; rintro _ w3 ⟨rfl, k, hk⟩; have q3 : Below w2'.heap.size w2' w3 := (by rw [hk]; exact undrewK C0.out.1); have k30 : w3.cell? ⟨w2'.heap.size, 0, none⟩ = some (.slice ha hd_.length hc) := (by rw [hk]; exact C0.out.2.1); have k31 : w3.cell? ⟨w2'.heap.size, 1, none⟩ = some (.slice da dt.length dc) := (by rw [hk]; exact C0.out.2.2); clear hk)
        | (go_at_call 53; refine (XC.out w3 w2'.heap.size q3 k30 k31).mono ?_; rintro _ w4 ⟨fa, fc, rfl, hg4, q4⟩; have G4 := hide hg4; clear hg4)
        | (go_at_call 53; refine (XC.out _ _ (CC.out w3 q3).1 (CC.out w3 q3).2.1 (CC.out w3 q3).2.2).mono ?_; rintro _ w4 ⟨fa, fc, rfl, hg4, q4⟩; have G4 := hide hg4; clear hg4)
        | (go_at_call 53; refine (XC.out (w2'.alloc (.cells #[.slice ha hd_.length hc, .slice da dt.length dc] 27)).drew w2'.heap.size (undrew0 C0.out.1) C0.out.2.1 C0.out.2.2).mono ?_; rintro _ w4 ⟨fa, fc, rfl, hg4, q4⟩; have G4 := hide hg4; clear hg4)
        | (go_at_call 51; refine (XT.out w5 _ q5 G5.out).mono ?_; rintro _ w6 ⟨rfl, p6, b6⟩; have F6 := hide (And.intro p6 b6); have q6 : But (Only q.d) w2' w6 := b6; clear p6 b6)
        | (go_at_call 51; refine (XT.out w4 _ q4 G4.out).mono ?_; rintro _ w6 ⟨rfl, p6, b6⟩; have F6 := hide (And.intro p6 b6); have q6 : But (Only q.d) w2' w6 := b6; clear p6 b6))
    all_goals go_wp2
    all_goals go_meet
    all_goals exact ⟨rfl, F6.out⟩
  case rest =>
    obtain ⟨rfl, h5⟩ := hcut
    have P5 := hide h5.out.1
    have B5 := hide (B2.out.trans (h5.out.2.mono (fun g e => .inl e)))
    clear h5 q2 keepS XC XT NX e1' e2' c0 P2 B2
    by_cases h0 : E = 0
    · have ED := HD'.out
      have EB := HB'.out
      have ES := HS'.out
      rw [if_pos h0] at ED EB ES
      rw [HFR.out] at ED
      subst h0
      have ED' := hide ED
      have EB' := hide EB
      have ES' := hide ES
      clear ED EB ES HD' HB' HS' HE
      have c15 := P5.out.c1
      have XH := hide (XHO.out _ _ P5.out)
      go_wp2_with fail
      refine XH.out.mono ?_
      rintro _ w6 ⟨rfl, p6, b6⟩
      have B6 := hide (B5.out.trans (b6.mono (fun g e => .inr (.inl e))))
      have XP := hide (put_any p6.s HS.out p6.fz (i : Int))
      have P6 := hide p6
      clear p6 b6 XH XHO P5 B5 c15
      go_wp2_with fail
      refine XP.out.mono ?_
      rintro _ w7 ⟨rfl, s7, f7⟩
      have P7 := hide (P6.out.onS f7 s7)
      have B7 := hide (B6.out.trans (f7.but.mono (fun g e => .inr (.inr e))))
      clear s7 f7 XP P6 B6
      go_upto_region 13 with fail
      have c07 := P7.out.c0
      have NX7 := hide (next_any P7.out.s.drew)
      have keep7 : Hid (∀ W : World, Below w7.heap.size w7 W → W.cell? ⟨q.r, 0, none⟩ = some (.pointer (some ⟨q.d, 0, none⟩))) := fun W hb => (P7.out.later hb).c0
      have XW : Hid (∀ W, Below w7.heap.size w7 W → Calls Try.prog 56 #[.pointer (some ⟨q.d, 0, none⟩), .int .i64 5, .int .i64 ((s.put (i : Int)).nx : Int)] W fun e w' => e = .returned (.int .i64 (wrE 5 ((s.put (i : Int)).nx : Int))) ∧ Prg A w' q n D' B' s' c ∧ But (PK q) w7 w') := fun W hb => by
        have P := P7.out.later hb
        refine (Write_any P.dev (OK.out.st _ _) 5 _).mono ?_
        rintro e w' ⟨rfl, hd, hbd⟩
        refine ⟨rfl, ?_, (But.of_below hb).trans (hbd.mono (fun g e => .inl e))⟩
        rw [ED'.out, EB'.out, ES'.out]
        exact P.onDev hbd hd
      have q7 : Below w7.heap.size w7 w7.drew := undrew0 (Below.refl _ _)
      generalize (s.put (i : Int)).nx = nx' at *
      go_cut [] (fun wc => Hid (Prg A wc q n D' B' s' c ∧ But (PK q) w7 wc))
      case first =>
        go_region_held (fun W => W.cell? ⟨q.r, 0, none⟩ = some (.pointer (some ⟨q.d, 0, none⟩))) (first | exact keep7.out _ (by assumption) | assumption)
          (first
            | (go_at_call 52; refine NX7.out.mono ?_; rintro _ w8 ⟨rfl, k, hk⟩; have q8 : Below w7.heap.size w7 w8 := (by rw [hk]; exact undrewK (Below.refl _ _)); clear hk)
            | (go_at_call 56; refine (XW.out w8 q8).mono ?_; rintro _ w9 ⟨rfl, p9, b9⟩; have F9 := hide (And.intro p9 b9); have k9 : w9.cell? ⟨q.r, 0, none⟩ = some (.pointer (some ⟨q.d, 0, none⟩)) := p9.c0; clear p9 b9))
        all_goals go_wp2
        all_goals go_meet
        all_goals exact F9.out
      case rest =>
        have P9 := hide hcut.out.1
        have B9 := hide (B7.out.trans hcut.out.2)
        clear hcut keep7 XW NX7 q7 c07 P7 B7
        go_wp2
        go_ret
        exact ⟨rfl, P9.out, B9.out⟩
    · have ED := HD'.out
      have EB := HB'.out
      have ES := HS'.out
      rw [if_neg h0] at ED EB ES
      have e5 : D.stD (s.nx : Int) F = D := by unfold Dev.stD; rw [HE2.out, if_neg h0]
      rw [e5] at P5
      clear e5
      subst ED EB ES
      have q0 : (E != 0) = true := by simp [h0]
      go_wp2
      go_ret
      exact ⟨rfl, P5.out, B5.out⟩

/-- Send -/
theorem Send_any (h : Prg A w q n D B s c) (ok : D.Ok) (hA : ∀ g, A g → g < w.heap.size) (id : Int) {m : Nat} (hm : Bdd m B) (hm2 : m < 4611686018427387904) :
    Calls Try.prog 13 #[.pointer (some ⟨q.r, 0, none⟩), .int .i64 id] w fun e w' => e = .returned (.int .i64 (sdE n D B s id)) ∧ Prg A w' q n (sdD n D B s id) (sdB n D B s id) (sdS n D B s id) c ∧ But (PK q) w w' := by
  cases hu : usd n B id with
  | false =>
    refine (Send_none h id hu).mono ?_
    rintro e w' ⟨rfl, hb⟩
    have e7 : sdE n D B s id = 7 := by unfold sdE; rw [hu]; rfl
    unfold sdD sdB sdS
    rw [e7]
    exact ⟨rfl, h.later hb, But.of_below hb⟩
  | true =>
    obtain ⟨i, rfl, hi, hr⟩ := usd_yes hu
    by_cases h1 : D.r 1 = 0
    · have e7 : sdE n D B s i = 20 := by unfold sdE; rw [if_pos hu, if_pos h1]
      unfold sdD sdB sdS
      rw [e7]
      exact Send_off h i hi hr h1
    · have hd : D.r 1 = 1 := ok.link.resolve_left h1
      by_cases h2 : s.ids.length = 15
      · have e7 : sdE n D B s i = 21 := by unfold sdE; rw [if_pos hu, if_neg h1, if_pos h2]
        unfold sdD sdB sdS
        rw [e7]
        exact Send_full h i hi hr hd h2
      · have e7 : sdE n D B s i = D.stE s.nx (fr B i) := by unfold sdE; rw [if_pos hu, if_neg h1, if_neg h2]
        unfold sdD sdB sdS
        rw [e7]
        exact Send_try h ok hA i hi hr hd (by have := h.s.m15; omega) (by have := hm i; omega) _ rfl
end
end Go.Proofs.Ytjkfjijnjkpbbaa
