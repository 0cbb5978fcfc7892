
/-
  fill.
-/
import Derived.Test.YtjkfjijnjkpbbaaG8
namespace Go.Proofs.Ytjkfjijnjkpbbaa
open Go.RowKit

/-- the first free buffer -/
def gt (n : Nat) (B : Nat → Buf) : Option Nat := (List.range n).find? (fun i => decide ((B i).refs = 0))
theorem gt_some {n : Nat} {B : Nat → Buf} {i : Nat} (h : gt n B = some i) : i < n ∧ (B i).refs = 0 ∧ ∀ j, j < i → (B j).refs ≠ 0 := by
  unfold gt at h
  rw [List.find?_range_eq_some] at h
  obtain ⟨h1, h2, h3⟩ := h
  refine ⟨by simpa using h2, of_decide_eq_true h1, fun j hj => ?_⟩
  have := h3 j hj
  simpa using this
theorem gt_none {n : Nat} {B : Nat → Buf} (h : gt n B = none) : ∀ j, j < n → (B j).refs ≠ 0 := by
  unfold gt at h
  rw [List.find?_eq_none] at h
  intro j hj
  have := h j (by simpa using hj)
  simpa using this

/-- device, buffers, and what lies ready for what comes -/
structure Fl where
  D : Dev
  B : Nat → Buf
  c : Sd
/-- one more buffer -/
def flS (n : Nat) (x : Fl) : Option Fl := if x.c.ids.length < 15 then (match gt n x.B with
  | none => none
  | some i => some ⟨x.D.srD x.c.nx 274, upd x.B i ⟨1, [], []⟩, x.c.put i⟩) else none
def flN (n : Nat) : Nat → Fl → Fl
  | 0, x => x
  | k + 1, x => match flS n x with
    | none => x
    | some y => flN n k y
def flF (n : Nat) (x : Fl) : Fl := ⟨if x.c.ids.length < (flN n 15 x).c.ids.length then (flN n 15 x).D.wrD 3 ((flN n 15 x).c.nx : Int) else (flN n 15 x).D, (flN n 15 x).B, (flN n 15 x).c⟩
theorem flN_stop {n k : Nat} {x : Fl} (h : flS n x = none) : flN n k x = x := by
  cases k with
  | zero => rfl
  | succ k => unfold flN; rw [h]
theorem flN_step {n k : Nat} {x y : Fl} (h : flS n x = some y) : flN n (k + 1) x = flN n k y := by rw [flN, h]
theorem flS_some {n : Nat} {x : Fl} {i : Nat} (hl : x.c.ids.length < 15) (h : gt n x.B = some i) : flS n x = some ⟨x.D.srD x.c.nx 274, upd x.B i ⟨1, [], []⟩, x.c.put i⟩ := by unfold flS; rw [if_pos hl, h]
theorem flS_full {n : Nat} {x : Fl} (hl : ¬ x.c.ids.length < 15) : flS n x = none := by unfold flS; rw [if_neg hl]
theorem flS_none {n : Nat} {x : Fl} (h : gt n x.B = none) : flS n x = none := by unfold flS; split; rw [h]; rfl

theorem srD_r (D : Dev) (i room : Int) : (D.srD i room).r = D.r := by unfold Dev.srD; split <;> rfl
theorem srE_ok {D : Dev} {f m m0 : Nat} (hf : f < 16) (hm : m < 15) (hm0 : m0 ≤ m) (h2 : D.r 2 = (f : Int)) (h3 : D.r 3 = (((f + m0) % 16 : Nat) : Int)) : D.srE (((f + m) % 16 : Nat) : Int) 274 = 0 := by
  have hp : place (((f + m) % 16 : Nat) : Int) = true := by unfold place; simp; omega
  have ho : D.owns 2 3 (((f + m) % 16 : Nat) : Int) = false := by
    unfold Dev.owns own
    rw [h2, h3]
    simp only [Int.toNat_natCast]
    exact decide_eq_false (by omega)
  unfold Dev.srE
  rw [hp, ho]
  simp

/-- between the rounds of fill -/
structure FlI (A : Nat → Prop) (w : World) (q : Bl) (n : Nat) (x : Fl) (s : Sd) (k : Nat) (y : Fl) (wr : World) : Prop where
  eq : flN n 15 x = flN n k y
  p : Prg A wr q n y.D y.B s y.c
  r : y.D.r = x.D.r
  f : y.c.first = x.c.first
  le : x.c.ids.length ≤ y.c.ids.length
  k15 : 15 ≤ k + y.c.ids.length
  ok : y.D.Ok
  b : But (PK q) w wr

set_option maxRecDepth 100000 in
set_option maxHeartbeats 800000 in
theorem fill_any {A : Nat → Prop} {w : World} {q : Bl} {n : Nat} {x : Fl} {s : Sd} (h : Prg A w q n x.D x.B s x.c) (ok : x.D.Ok) (h2 : x.D.r 2 = (x.c.first : Int)) (h3 : x.D.r 3 = (x.c.nx : Int)) :
    Calls Try.prog 64 #[.pointer (some ⟨q.r, 0, none⟩)] w fun e w' => e = .returned (.tuple #[]) ∧ Prg A w' q n (flF n x).D (flF n x).B s (flF n x).c ∧ But (PK q) w w' := by
  have I0 : Hid (FlI A w q n x s 15 x w) := ⟨rfl, h, rfl, rfl, Nat.le_refl _, by omega, ok, But.refl _ _⟩
  have H2 := hide h2
  have H3 := hide h3
  have cm : w.cell? ⟨q.r, 37, none⟩ = some (.int .i64 (x.c.ids.length : Int)) := h.c.many
  have m15 := h.c.m15
  have f16 := h.c.f16
  have z15 : (x.c.ids.length : Int) ≤ 15 := by omega
  obtain ⟨R, hR⟩ : ∃ R, R = flF n x := ⟨_, rfl⟩
  have HR := hide hR
  rw [← hR]
  clear h ok h2 h3 hR
  go_enter Try.func64, Try.ntmps64
  go_wp2
  go_loopw [] (fun wr => ∃ k y, Hid (FlI A w q n x s k y wr)) (fun wr => 15 - (intOf ((wr.cell? ⟨q.r, 37, none⟩).getD (.int .i64 0))).toNat)
  case atStart => exact ⟨15, x, I0.out⟩
  case round =>
    obtain ⟨k, y, hI⟩ := hrel
    have c37 : wr.cell? ⟨q.r, 37, none⟩ = some (.int .i64 (y.c.ids.length : Int)) := hI.out.p.c.many
    have y15 := hI.out.p.c.m15
    clear I0 cm
    by_cases hlt : y.c.ids.length < 15
    · have zl : (y.c.ids.length : Int) < 15 := by omega
      have c1 := hI.out.p.c1
      cases hg : gt n y.B with
      | none =>
        have STOP : Hid (flN n 15 x = y) := by show _ = _; rw [hI.out.eq, flN_stop (flS_none hg)]
        have XG := hide (Get_no hI.out.p.pool (gt_none hg))
        have HI := hide hI.out
        have le := hI.out.le
        have c0 := hI.out.p.c0
        clear hI
        by_cases hgr : x.c.ids.length < y.c.ids.length
        · have zg : (x.c.ids.length : Int) < (y.c.ids.length : Int) := by omega
          have ER : Hid (R.D = y.D.wrD 3 (y.c.nx : Int) ∧ R.B = y.B ∧ R.c = y.c) := by rw [HR.out]; unfold flF; rw [STOP.out, if_pos hgr]; exact ⟨rfl, rfl, rfl⟩
          have NX7 := hide (next_any HI.out.p.c.drew)
          have keep7 : Hid (∀ W : World, Below wr.heap.size wr W → W.cell? ⟨q.r, 0, none⟩ = some (.pointer (some ⟨q.d, 0, none⟩))) := fun W hb => (HI.out.p.later hb).c0
          have XW : Hid (∀ W, Below wr.heap.size wr W → Calls Try.prog 56 #[.pointer (some ⟨q.d, 0, none⟩), .int .i64 3, .int .i64 (y.c.nx : Int)] W fun e w' => e = .returned (.int .i64 (wrE 3 (y.c.nx : Int))) ∧ Prg A w' q n R.D R.B s R.c ∧ But (PK q) w w') := fun W hb => by
            have P := HI.out.p.later hb
            refine (Write_any P.dev HI.out.ok 3 _).mono ?_
            rintro e w' ⟨rfl, hd, hbd⟩
            refine ⟨rfl, ?_, HI.out.b.trans ((But.of_below hb).trans (hbd.mono (fun g e => .inl e)))⟩
            rw [ER.out.1, ER.out.2.1, ER.out.2.2]
            exact P.onDev hbd hd
          clear ER
          go_wp2_with fail
          refine XG.out.mono ?_
          rintro _ w1 ⟨rfl, hw⟩
          have hw' := hw.symm
          subst hw'
          clear hw XG
          go_upto_region 8 with fail
          have q7 : Below wr.heap.size wr wr.drew := undrew0 (Below.refl _ _)
          generalize y.c.nx = nx' at *
          go_region_held (fun W => W.cell? ⟨q.r, 0, none⟩ = some (.pointer (some ⟨q.d, 0, none⟩))) (first | exact keep7.out _ (by assumption) | assumption)
            (first
              | (go_at_call 52; refine NX7.out.mono ?_; rintro _ w8 ⟨rfl, k8, hk⟩; have q8 : Below wr.heap.size wr w8 := (by rw [hk]; exact undrewK (Below.refl _ _)); clear hk)
              | (go_at_call 56; refine (XW.out w8 q8).mono ?_; rintro _ w9 ⟨rfl, p9, b9⟩; have F9 := hide (And.intro p9 b9); have k9 : w9.cell? ⟨q.r, 0, none⟩ = some (.pointer (some ⟨q.d, 0, none⟩)) := p9.c0; clear p9 b9))
          all_goals go_end0
          all_goals exact ⟨rfl, F9.out.1, F9.out.2⟩
        · have zg : ¬ (x.c.ids.length : Int) < (y.c.ids.length : Int) := by omega
          have ER : Hid (R = y) := by show _ = _; rw [HR.out]; unfold flF; rw [STOP.out, if_neg hgr]
          go_wp2_with fail
          refine XG.out.mono ?_
          rintro _ w1 ⟨rfl, hw⟩
          have hw' := hw.symm
          subst hw'
          clear hw XG
          go_wp2_with fail
          go_end0
          rw [ER.out]
          exact ⟨rfl, HI.out.p, HI.out.b⟩
      | some i =>
        obtain ⟨hi, h0, hl0⟩ := gt_some hg
        have NXT := hide (flS_some hlt hg)
        have X := hide (Get_yes hI.out.p.pool i hi h0 hl0)
        go_wp2_with fail
        refine X.out.mono ?_
        rintro _ w1 ⟨rfl, hp1, hb1⟩
        have P1 := hide (hI.out.p.onPool hb1 hp1)
        have B1 := hide (hI.out.b.trans (hb1.mono (fun g e => .inr (.inl e))))
        have HG := hide hg
        have HLT := hide hlt
        have c37' : wr.cell? ⟨q.r, 37, none⟩ = some (.int .i64 (y.c.ids.length : Int)) := c37
        clear hp1 hb1 X h0 hl0 c1 hg
        go_upto_region 4 with fail
        have c01 := P1.out.c0
        have NX1 := hide (next_any P1.out.c.drew)
        have SE : Hid (y.D.srE (y.c.nx : Int) 274 = 0) := srE_ok (m0 := x.c.ids.length) (by have := hI.out.f; omega) HLT.out hI.out.le (by rw [hI.out.r, H2.out, hI.out.f]) (by rw [hI.out.r, H3.out, hI.out.f]; rfl)
        have keep1 : Hid (∀ W : World, Below w1.heap.size w1 W → W.cell? ⟨q.r, 0, none⟩ = some (.pointer (some ⟨q.d, 0, none⟩))) := fun W hb => (P1.out.later hb).c0
        have XS : Hid (∀ W, Below w1.heap.size w1 W → Calls Try.prog 89 #[.pointer (some ⟨q.d, 0, none⟩), .int .i64 (y.c.nx : Int), .int .i64 274] W fun e w' => e = .returned (.int .i64 0) ∧ Prg A w' q n (y.D.srD (y.c.nx : Int) 274) (upd y.B i ⟨1, [], []⟩) s y.c ∧ But (PK q) w w') := fun W hb => by
          have P := P1.out.later hb
          refine (SetRx_any P.dev hI.out.ok _ _).mono ?_
          rintro e w' ⟨rfl, hd, hbd⟩
          exact ⟨by rw [SE.out], P.onDev hbd hd, B1.out.trans ((But.of_below hb).trans (hbd.mono (fun g e => .inl e)))⟩
        have q1 : Below w1.heap.size w1 w1.drew := undrew0 (Below.refl _ _)
        obtain ⟨nx', hnx'⟩ : ∃ nx', y.c.nx = nx' := ⟨_, rfl⟩
        rw [hnx'] at NX1 XS
        have HNX := hide hnx'
        clear hnx'
        go_cut [35] from 10 to 46 (fun v35 wc => v35 = .bool false ∧ Hid (Prg A wc q n (y.D.srD (y.c.nx : Int) 274) (upd y.B i ⟨1, [], []⟩) s y.c ∧ But (PK q) w wc))
        case first =>
          go_region_held (fun W => W.cell? ⟨q.r, 0, none⟩ = some (.pointer (some ⟨q.d, 0, none⟩))) (first | exact keep1.out _ (by assumption) | assumption)
            (first
              | (go_at_call 52; refine NX1.out.mono ?_; rintro _ w8 ⟨rfl, k8, hk⟩; have q8 : Below w1.heap.size w1 w8 := (by rw [hk]; exact undrewK (Below.refl _ _)); clear hk)
              | (go_at_call 89; refine (XS.out w8 q8).mono ?_; rintro _ w9 ⟨rfl, p9, b9⟩; have F9 := hide (And.intro p9 b9); have k9 : w9.cell? ⟨q.r, 0, none⟩ = some (.pointer (some ⟨q.d, 0, none⟩)) := p9.c0; clear p9 b9))
          all_goals go_wp2
          all_goals go_meet
          all_goals (rw [HNX.out]; exact ⟨rfl, F9.out⟩)
        case rest =>
          obtain ⟨rfl, h5⟩ := hcut
          have P5 := hide h5.out.1
          have B5 := hide h5.out.2
          have C37 := hide c37
          clear h5 q1 keep1 XS NX1 c01 c37 c37'
          have XP := hide (put_any P5.out.c HLT.out P5.out.fz (i : Int))
          go_wp2_with fail
          refine XP.out.mono ?_
          rintro _ w7 ⟨rfl, s7, f7⟩
          have k15 := hI.out.k15
          have I7 : Hid (FlI A w q n x s (k - 1) ⟨y.D.srD (y.c.nx : Int) 274, upd y.B i ⟨1, [], []⟩, y.c.put (i : Int)⟩ w7) := by
            refine ⟨?_, P5.out.onC f7 s7, (srD_r _ _ _).trans hI.out.r, hI.out.f, ?_, ?_, hI.out.ok.sr _ _, B5.out.trans (f7.but.mono (fun g e => .inr (.inr e)))⟩
            · rw [hI.out.eq]
              obtain ⟨k', rfl⟩ : ∃ k', k = k' + 1 := ⟨k - 1, by have := HLT.out; omega⟩
              rw [flN_step NXT.out]
              rfl
            · have := hI.out.le
              simp [Sd.put]; omega
            · have := HLT.out
              simp [Sd.put]; omega
          have M7 : Hid (15 - (intOf ((w7.cell? ⟨q.r, 37, none⟩).getD (.int .i64 0))).toNat < 15 - (intOf ((wr.cell? ⟨q.r, 37, none⟩).getD (.int .i64 0))).toNat) := by
            have e1 : w7.cell? ⟨q.r, 37, none⟩ = some (.int .i64 ((y.c.put (i : Int)).ids.length : Int)) := I7.out.p.c.many
            unfold Hid
            rw [e1, C37.out]
            have := HLT.out
            simp [intOf, Sd.put]
            omega
          clear s7 f7 XP P5 B5 k15
          go_wp2
          go_roundw
          case rel => exact ⟨_, _, I7.out⟩
          case measure => exact M7.out
    · have zl : ¬ (y.c.ids.length : Int) < 15 := by omega
      have STOP : Hid (flN n 15 x = y) := by show _ = _; rw [hI.out.eq, flN_stop (flS_full hlt)]
      have HI := hide hI.out
      have le := hI.out.le
      have c0 := hI.out.p.c0
      clear hI
      by_cases hgr : x.c.ids.length < y.c.ids.length
      · have zg : (x.c.ids.length : Int) < (y.c.ids.length : Int) := by omega
        have ER : Hid (R.D = y.D.wrD 3 (y.c.nx : Int) ∧ R.B = y.B ∧ R.c = y.c) := by rw [HR.out]; unfold flF; rw [STOP.out, if_pos hgr]; exact ⟨rfl, rfl, rfl⟩
        have NX7 := hide (next_any HI.out.p.c.drew)
        have keep7 : Hid (∀ W : World, Below wr.heap.size wr W → W.cell? ⟨q.r, 0, none⟩ = some (.pointer (some ⟨q.d, 0, none⟩))) := fun W hb => (HI.out.p.later hb).c0
        have XW : Hid (∀ W, Below wr.heap.size wr W → Calls Try.prog 56 #[.pointer (some ⟨q.d, 0, none⟩), .int .i64 3, .int .i64 (y.c.nx : Int)] W fun e w' => e = .returned (.int .i64 (wrE 3 (y.c.nx : Int))) ∧ Prg A w' q n R.D R.B s R.c ∧ But (PK q) w w') := fun W hb => by
          have P := HI.out.p.later hb
          refine (Write_any P.dev HI.out.ok 3 _).mono ?_
          rintro e w' ⟨rfl, hd, hbd⟩
          refine ⟨rfl, ?_, HI.out.b.trans ((But.of_below hb).trans (hbd.mono (fun g e => .inl e)))⟩
          rw [ER.out.1, ER.out.2.1, ER.out.2.2]
          exact P.onDev hbd hd
        clear ER
        go_upto_region 8 with fail
        have q7 : Below wr.heap.size wr wr.drew := undrew0 (Below.refl _ _)
        generalize y.c.nx = nx' at *
        go_region_held (fun W => W.cell? ⟨q.r, 0, none⟩ = some (.pointer (some ⟨q.d, 0, none⟩))) (first | exact keep7.out _ (by assumption) | assumption)
          (first
            | (go_at_call 52; refine NX7.out.mono ?_; rintro _ w8 ⟨rfl, k8, hk⟩; have q8 : Below wr.heap.size wr w8 := (by rw [hk]; exact undrewK (Below.refl _ _)); clear hk)
            | (go_at_call 56; refine (XW.out w8 q8).mono ?_; rintro _ w9 ⟨rfl, p9, b9⟩; have F9 := hide (And.intro p9 b9); have k9 : w9.cell? ⟨q.r, 0, none⟩ = some (.pointer (some ⟨q.d, 0, none⟩)) := p9.c0; clear p9 b9))
        all_goals go_end0
        all_goals exact ⟨rfl, F9.out.1, F9.out.2⟩
      · have zg : ¬ (x.c.ids.length : Int) < (y.c.ids.length : Int) := by omega
        have ER : Hid (R = y) := by show _ = _; rw [HR.out]; unfold flF; rw [STOP.out, if_neg hgr]
        go_wp2_with fail
        go_end0
        rw [ER.out]
        exact ⟨rfl, HI.out.p, HI.out.b⟩
end Go.Proofs.Ytjkfjijnjkpbbaa
