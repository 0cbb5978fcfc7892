
/-
  The chapter's example.
-/
import Derived.Test.YtjkfjijnjkpbbaaJ1
namespace Go.Proofs.Ytjkfjijnjkpbbaa
open Go.RowKit

/-- the string of these bytes -/
def strB (bs : List Int) : ByteArray := bs.foldl (fun r n => r.push (UInt8.ofNat n.toNat)) ByteArray.empty

theorem conv_str {A : Nat → Prop} {W : World} {v : Value} {bs : List Int} (h : IsF A W v bs) : (convert 27 9 v).run Try.prog W = .ok (.string (strB bs)) W := by
  obtain ⟨a, cap, rfl, hl, hn, hc⟩ := h
  rw [run_convert_bytes_string (P := Try.prog) W 27 9 5 a bs.length cap Try.underlying27 Try.underlying5 Try.underlying9]
  cases a with
  | none =>
    have h0 := hn rfl
    have : bs = [] := List.eq_nil_of_length_eq_zero (by omega)
    subst this
    rfl
  | some ad =>
    refine run_bytesToString W ad bs.length cap bs ?_
    have := run_loadCells_list (P := Try.prog) W ad (bs.map (Value.int .u8)) (fun j v hv => by
      have hj : j < bs.length := by have := (List.getElem?_eq_some_iff.1 hv).1; simpa using this
      obtain ⟨b, off, e, _, _, hcs⟩ := hc (by omega)
      cases e
      rw [Addr.add_lit, hcs j hj]
      simp only [List.getElem?_map, List.getElem?_eq_getElem hj, Option.map_some, Option.some.injEq] at hv
      simp [List.getElem?_eq_getElem hj, hv])
    simpa using this

/-- bytes that were written out lie in a new block -/
theorem lit_F (w : World) (bs : List Int) (A : Nat → Prop) (hA : ¬ A w.heap.size) (fr : Nat × Nat) : IsF A (w.alloc (.cells (bs.map (Value.int .u8)).toArray 5 fr)) (.slice (some ⟨w.heap.size, 0, none⟩) bs.length bs.length) bs := by
  refine ⟨_, _, rfl, Nat.le_refl _, (fun e => by cases e), fun _ => ⟨w.heap.size, 0, rfl, by simp, hA, fun j hj => ?_⟩⟩
  rw [Nat.zero_add, cell_of_row _ w.heap.size j _ 5 fr (heap_alloc_new w _)]
  simp [hj]

theorem conv_same (w : World) (C : Array Value) (n c : Nat) : (convert 27 27 (.slice (some ⟨w.heap.size, 0, none⟩) n c)).run Try.prog (w.alloc (.cells C 5)) = .ok (.slice (some ⟨w.heap.size, 0, none⟩) n c) (w.alloc (.cells C 5 (C.size, C.size + 1))) :=
  Lib.run_convert_bytes_const w _ _ C n c Try.underlying27 Try.underlying5


theorem flS_ok {n : Nat} {x y : Fl} (h : flS n x = some y) (ok : x.D.Ok) {m : Nat} (hm : Bdd m x.B) (h1 : 1 ≤ m) : y.D.Ok ∧ Bdd m y.B := by
  unfold flS at h
  split at h
  · split at h
    · cases h
    · rename_i i _
      cases h
      refine ⟨ok.sr _ _, fun j => ?_⟩
      show (upd x.B i ⟨1, [], []⟩ j).refs ≤ m
      by_cases e : j = i
      · subst e; rw [upd_same]; exact h1
      · rw [upd_other _ _ _ _ e]; exact hm j
  · cases h
theorem flN_ok {n : Nat} {m : Nat} (h1 : 1 ≤ m) : ∀ (k : Nat) (x : Fl), x.D.Ok → Bdd m x.B → (flN n k x).D.Ok ∧ Bdd m (flN n k x).B
  | 0, _, ok, hm => ⟨ok, hm⟩
  | k + 1, x, ok, hm => by
    unfold flN
    split
    · exact ⟨ok, hm⟩
    · rename_i y hy
      obtain ⟨a, b⟩ := flS_ok hy ok hm h1
      exact flN_ok h1 k y a b
theorem flF_ok {n m : Nat} {x : Fl} (h1 : 1 ≤ m) (ok : x.D.Ok) (hm : Bdd m x.B) : (flF n x).D.Ok ∧ Bdd m (flF n x).B := by
  obtain ⟨a, b⟩ := flN_ok (n := n) h1 15 x ok hm
  refine ⟨?_, b⟩
  unfold flF
  show Dev.Ok (if _ then _ else _)
  split
  · exact a.wr _ _
  · exact a
theorem bg0_ok (n : Nat) : (bg0 n).D.Ok ∧ Bdd 1 (bg0 n).B := flF_ok (m := 1) (x := ⟨bgD Dev.new, none4, sd0⟩) (Nat.le_refl _) ((Dev.Ok.new.wr 0 2).wr 0 1) (fun _ => Nat.zero_le 1)
theorem Bdd.st {m n : Nat} {B : Nat → Buf} (h : Bdd m B) (id : Int) (bs : List Int) : Bdd m (stB n B id bs) := by
  intro i
  unfold stB
  split
  · by_cases e : i = id.toNat
    · subst e; rw [upd_same]; exact h _
    · rw [upd_other _ _ _ _ e]; exact h i
  · exact h i
theorem Bdd.get {m : Nat} {B : Nat → Buf} (h : Bdd m B) (h1 : 1 ≤ m) (i : Nat) : Bdd m (upd B i ⟨1, [], []⟩) := by
  intro j
  by_cases e : j = i
  · subst e; rw [upd_same]; exact h1
  · rw [upd_other _ _ _ _ e]; exact h j
theorem Bdd.ho {m n : Nat} {B : Nat → Buf} (h : Bdd m B) (id : Int) : Bdd (m + 1) (hoB n B id) := by
  intro i
  unfold hoB
  split
  · by_cases e : i = id.toNat
    · subst e; rw [upd_same]; have := h id.toNat; show _ + 1 ≤ m + 1; omega
    · rw [upd_other _ _ _ _ e]; have := h i; omega
  · have := h i; omega
theorem Bdd.mono {m m' : Nat} {B : Nat → Buf} (h : Bdd m B) (hm : m ≤ m') : Bdd m' B := fun i => Nat.le_trans (h i) hm
theorem Bdd.sd {m n : Nat} {D : Dev} {B : Nat → Buf} {s : Sd} (h : Bdd m B) (id : Int) : Bdd (m + 1) (sdB n D B s id) := by
  unfold sdB; split
  · exact h.ho id
  · exact h.mono (by omega)
theorem Ok.sd {n : Nat} {D : Dev} {B : Nat → Buf} {s : Sd} (h : D.Ok) (id : Int) : (sdD n D B s id).Ok := by
  unfold sdD; split
  · exact (h.st _ _).wr _ _
  · exact h

theorem aOk0 : aD0.Ok := (bg0_ok 20).1
theorem aOk3 : aD3.Ok := Ok.sd aOk0 _
theorem aOk5 : aD5.Ok := aOk3.tk
theorem aOk6 : aD6.Ok := aOk5.gv _ _
theorem aBd1 : Bdd 1 aB1 := (bg0_ok 20).2.get (Nat.le_refl _) 15
theorem aBd2 : Bdd 1 aB2 := aBd1.st _ _
theorem aBd3 : Bdd 2 aB3 := aBd2.sd _
theorem aBd4 : Bdd 2 aB4 := aBd3.fr _

theorem PK_lt {A : Nat → Prop} {W : World} {x : Nat} {q : Bl} {n : Nat} {D : Dev} {B : Nat → Buf} {s c : Sd} (h : RigP A W x q n D B s c) : ∀ g, PK q g → g < W.heap.size := fun g e => by
  rcases e with e | e | e
  · rw [e]; exact h.p.dev.lt
  · rw [e]; exact h.p.pool.glt
  · rw [e]; exact h.p.rlt

theorem sto1 {w12 w13 : World} {D : Value} {bs : List Int} {X : Nat → Prop} (i13 : IsF X w13 D bs) (b13 : Below w12.drew.heap.size w12 w13) (rf : Int) (H : Value) :
    Below w12.heap.size w12 (w13.alloc (.cells #[.int .i64 rf, H, D] 35)) ∧ (w13.alloc (.cells #[.int .i64 rf, H, D] 35)).cell? ⟨w13.heap.size, 2, none⟩ = some D ∧ ∃ A, IsF A (w13.alloc (.cells #[.int .i64 rf, H, D] 35)) D bs :=
  ⟨b13.alloc b13.size _, by rw [cell_of_row _ w13.heap.size 2 _ 35 (0, 0) (heap_alloc_new w13 _)]; rfl, X, i13.but ((But.refl (fun _ => False) _).alloc _) (fun _ e => e.elim)⟩
/-- three stores into a struct that is new -/
theorem sto3 {w12 w13 : World} {D : Value} {bs : List Int} {Z : Array Value} {t : TypeId} (i13 : IsF (fun g => g < (w12.alloc (.cells Z t)).drew.heap.size) w13 D bs) (b13 : Below (w12.alloc (.cells Z t)).drew.heap.size (w12.alloc (.cells Z t)) w13) (B0 : Below w12.heap.size w12 (w12.alloc (.cells Z t))) (t13 : PTri w13 w12.heap.size) (rf : Int) (H E : Value) :
    Below w12.heap.size w12 (((w13.setCell ⟨w12.heap.size, 0, none⟩ (.int .i64 rf)).setCell ⟨w12.heap.size, 1, none⟩ H).setCell ⟨w12.heap.size, 2, none⟩ E) ∧ (((w13.setCell ⟨w12.heap.size, 0, none⟩ (.int .i64 rf)).setCell ⟨w12.heap.size, 1, none⟩ H).setCell ⟨w12.heap.size, 2, none⟩ E).cell? ⟨w12.heap.size, 2, none⟩ = some E ∧ ∃ A, IsF A (((w13.setCell ⟨w12.heap.size, 0, none⟩ (.int .i64 rf)).setCell ⟨w12.heap.size, 1, none⟩ H).setCell ⟨w12.heap.size, 2, none⟩ E) D bs := by
  have b1 : But (Only w12.heap.size) w13 (((w13.setCell ⟨w12.heap.size, 0, none⟩ (.int .i64 rf)).setCell ⟨w12.heap.size, 1, none⟩ H).setCell ⟨w12.heap.size, 2, none⟩ E) := (((But.refl _ _).cellb _ _).cellb _ _).cellb _ _
  have hs : w12.heap.size < (w12.alloc (.cells Z t)).drew.heap.size := by show _ < (w12.alloc (.cells Z t)).heap.size; simp
  have b3 : Below w12.heap.size w12 w13 := B0.trans (b13.mono (Nat.le_of_lt hs))
  refine ⟨b3.trans (b1.below b3.size (fun g hg e => by have e : g = w12.heap.size := e; omega)), World.cell?_setCell_same' _ _ _ (by rw [setCell_out (by omega), setCell_out (by omega), t13.c2]; rfl), _, i13.but b1 (fun g e => by have e : g = w12.heap.size := e; rw [e]; exact hs)⟩

set_option maxRecDepth 100000 in
set_option maxHeartbeats 4000000 in
theorem awake_any (w : World) : Calls Try.prog 7 #[] w fun e w' => e = .returned (.bool true) ∧ Below w.heap.size w w' := by
  have cv := conv_same
  go_enter Try.func7, Try.ntmps7
  go_wp2_with fail
  refine (begun_yes w 20 (by omega) (by omega)).mono ?_
  rintro _ w1 ⟨x, q, rfl, r1, b1, hx, hqd, hqp, hqg, hqr⟩
  have R1 : Hid (RigP (PK q) w1 x q 20 aD0 aB0 sd0 (bg0 20).c) := r1.avoid (fun _ _ _ => trivial) (.inl rfl) (.inr (.inl rfl)) (.inr (.inr rfl))
  have B1 := hide b1
  have HQ := hide (And.intro hx (And.intro hqd (And.intro hqg hqr)))
  have KN : Hid (∀ g, g < w.heap.size → ¬ PK q g) := fun g hg e => by rcases e with e | e | e <;> omega
  clear r1 b1 hx hqd hqp hqg hqr
  have XL := hide (Left_any R1.out.p.pool)
  rw [a_left] at XL
  have XC := hide (Coming_any R1.out.p)
  rw [a_c] at XC
  have k0 := R1.out.c0
  have k1 := R1.out.c1
  have k2 := R1.out.c2
  go_wp2_with fail
  refine XL.out.mono ?_
  rintro _ _ ⟨rfl, rfl⟩
  go_wp2_with fail
  refine XC.out.mono ?_
  rintro _ w2 ⟨v, rfl, hr, b2⟩
  obtain ⟨ra, rc, rfl, _⟩ := row_shape hr
  have R2 := hide (R1.out.later b2)
  have B2 := hide (B1.out.trans (b2.mono B1.out.size))
  obtain ⟨gi, g0, gl⟩ := gt_some a_get
  have XG := hide (Get_yes R2.out.p.pool 15 gi g0 gl)
  have k1 := R2.out.c1
  clear hr b2 XL XC R1 k0 k2 gi g0 gl B1
  go_wp2_with fail
  refine XG.out.mono ?_
  rintro _ w3 ⟨rfl, p3, b3⟩
  have b3' : But (PK q) w2 w3 := b3.mono (fun g e => .inr (.inl e))
  have R3 : Hid (RigP (PK q) w3 x q 20 aD0 aB1 sd0 (bg0 20).c) := R2.out.did b3' (R2.out.p.onPool b3 p3)
  have B3 := hide (B2.out.trans (b3'.below B2.out.size KN.out))
  clear p3 b3 b3' XG R2 B2 k1
  have k1 := R3.out.c1
  go_wp2_with fail
  refine (Set_any (A := fun _ => False) (R3.out.al _).p.pool 15 _ [120] (lit_F w3 [120] (fun _ => False) id _)).mono ?_
  rintro _ w4 ⟨rfl, p4, b4⟩
  rw [a_set]
  have R4 : Hid (RigP (PK q) w4 x q 20 aD0 aB2 sd0 (bg0 20).c) := (R3.out.al _).did (b4.mono (fun g e => .inr (.inl e))) ((R3.out.al _).p.onPool b4 p4)
  have B4 : Hid (Below w.heap.size w w4) := B3.out.trans ((((But.refl (PK q) w3).alloc _).trans (b4.mono (fun g e => .inr (.inl e)))).below B3.out.size KN.out)
  clear p4 b4 R3 B3 k1
  have k2 := R4.out.c2
  have XS := hide (Send_any R4.out.p aOk0 (PK_lt R4.out) 15 aBd2 (by omega))
  rw [a_send] at XS
  go_wp2_with fail
  refine XS.out.mono ?_
  rintro _ w5 ⟨rfl, p5, b5⟩
  have R5 : Hid (RigP (PK q) w5 x q 20 aD3 aB3 aS3 (bg0 20).c) := R4.out.did b5 p5
  have B5 := hide (B4.out.trans (b5.below B4.out.size KN.out))
  clear p5 b5 XS R4 B4 k2
  have k1 := R5.out.c1
  have XF := hide (Free_any R5.out.p.pool 15 (by have := aBd3 (15 : Int).toNat; omega))
  rw [a_free] at XF
  go_wp2_with fail
  refine XF.out.mono ?_
  rintro _ w6 ⟨rfl, p6, b6⟩
  have b6' : But (PK q) w5 w6 := b6.mono (fun g e => .inr (.inl e))
  have R6 : Hid (RigP (PK q) w6 x q 20 aD3 aB4 aS3 (bg0 20).c) := R5.out.did b6' (R5.out.p.onPool b6 p6)
  have B6 := hide (B5.out.trans (b6'.below B5.out.size KN.out))
  clear p6 b6 b6' XF R5 B5 k1
  have k1 := R6.out.c1
  have XE := hide (See_any R6.out.p.pool 15)
  rw [a_see.1, a_see.2] at XE
  go_wp2_with fail
  refine XE.out.mono ?_
  rintro _ w7 ⟨ha, hc, da, dc, rfl, _, b7⟩
  generalize (seX 20 aB4 15).head.length = lh at *
  generalize (seX 20 aB4 15).data.length = ld at *
  have R7 := hide ((R6.out.later b7).al (.cells #[.int .i64 1, .slice ha lh hc, .slice da ld dc] 35))
  have B7 : Hid (Below w.heap.size w (w7.alloc (.cells #[.int .i64 1, .slice ha lh hc, .slice da ld dc] 35))) := (B6.out.trans (b7.mono B6.out.size)).alloc (Nat.le_trans B6.out.size b7.size) _
  have A7 : Hid ((w7.alloc (.cells #[.int .i64 1, .slice ha lh hc, .slice da ld dc] 35)).cell? ⟨w7.heap.size, 0, none⟩ = some (.int .i64 1)) := by
    unfold Hid
    rw [cell_of_row _ w7.heap.size 0 _ 35 (0, 0) (heap_alloc_new w7 _)]; rfl
  have N7 : Hid (¬ PK q w7.heap.size) := fun e => by have := PK_lt (R6.out.later b7) _ e; omega
  clear b7 XE R6 B6 k1
  go_upto_region 9 with fail
  obtain ⟨sa, hsa⟩ : ∃ sa, w7.heap.size = sa := ⟨_, rfl⟩
  rw [hsa] at A7 N7 ⊢
  generalize w7.alloc (.cells #[.int .i64 1, .slice ha lh hc, .slice da ld dc] 35) = w8 at *
  clear hsa
  have la8 : sa < w8.heap.size := World.block_lt_of_cell? w8 _ A7.out
  have LA8 := hide la8
  clear la8
  have k0 := R7.out.c0
  have XT := hide (Take_any R7.out.p.dev aOk3)
  rw [a_take.1, a_take.2] at XT
  go_wp2_with fail
  refine XT.out.mono ?_
  rintro _ w9 ⟨fa, fc, rfl, g9, d9, b9⟩
  have b9' : But (PK q) w8 w9 := b9.mono (fun g e => .inl e)
  have R9 : Hid (RigP (PK q) w9 x q 20 aD5 aB4 aS3 (bg0 20).c) := R7.out.did b9' (R7.out.p.onDev b9 d9)
  have B9 := hide (B7.out.trans (b9'.below B7.out.size KN.out))
  have A9 : Hid (w9.cell? ⟨sa, 0, none⟩ = some (.int .i64 1)) := (b9'.cell (p := ⟨sa, 0, none⟩) LA8.out N7.out).trans A7.out
  have LA9 : Hid (sa < w9.heap.size) := Nat.lt_of_lt_of_le LA8.out b9'.size
  have I9 := hide (g9.isF (A := PK q) (fun g hg e => by have := PK_lt R7.out g e; omega))
  have N9 : Hid (¬ PK q w9.heap.size) := fun e => by have := PK_lt R9.out _ e; omega
  clear g9 d9 b9 b9' XT R7 B7 A7 LA8 k0
  generalize aD3.tkT = tk at *
  go_upto_region 10 with fail
  have R10 := hide (R9.out.al (.cells #[.slice fa [120].length fc, .bool false, .int .i64 tk] 51))
  have B10 : Hid (Below w.heap.size w (w9.alloc (.cells #[.slice fa [120].length fc, .bool false, .int .i64 tk] 51))) := B9.out.alloc B9.out.size _
  have bA : But (fun _ => False) w9 (w9.alloc (.cells #[.slice fa [120].length fc, .bool false, .int .i64 tk] 51)) := (But.refl _ _).alloc _
  have A10 := hide ((bA.cell (p := ⟨sa, 0, none⟩) LA9.out id).trans A9.out)
  have I10 := hide (I9.out.but bA (fun _ e => e.elim))
  have C10 : Hid ((w9.alloc (.cells #[.slice fa [120].length fc, .bool false, .int .i64 tk] 51)).cell? ⟨w9.heap.size, 0, none⟩ = some (.slice fa [120].length fc)) := by
    unfold Hid
    rw [cell_of_row _ w9.heap.size 0 _ 51 (0, 0) (heap_alloc_new w9 _)]; rfl
  obtain ⟨sb, hsb⟩ : ∃ sb, w9.heap.size = sb := ⟨_, rfl⟩
  simp only [List.length_cons, List.length_nil, Nat.zero_add] at R10 B10 A10 I10 C10
  rw [hsb] at C10 N9 ⊢
  generalize w9.alloc (.cells #[.slice fa 1 fc, .bool false, .int .i64 tk] 51) = w10 at *
  clear hsb bA R9 B9 A9 I9 LA9
  have k0 := R10.out.c0
  have LA10 : Hid (sa < w10.heap.size) := World.block_lt_of_cell? w10 _ A10.out
  have LB10 : Hid (sb < w10.heap.size) := World.block_lt_of_cell? w10 _ C10.out
  go_wp2_with fail
  refine (Give_any (A' := fun _ => False) (R10.out.al _).p.dev aOk5 (PK_lt (R10.out.al _)) _ [121] false (lit_F w10 [121] (fun _ => False) id _) (by simp)).mono ?_
  rintro _ w11 ⟨rfl, d11, b11⟩
  rw [a_give]
  have b11' : But (PK q) w10 w11 := ((But.refl (PK q) w10).alloc _).trans (b11.mono (fun g e => .inl e))
  have R11 : Hid (RigP (PK q) w11 x q 20 aX.D aX.B aX.s aX.c) := (R10.out.al _).did (b11.mono (fun g e => .inl e)) ((R10.out.al _).p.onDev b11 d11)
  have B11 := hide (B10.out.trans (b11'.below B10.out.size KN.out))
  have A11 : Hid (w11.cell? ⟨sa, 0, none⟩ = some (.int .i64 1)) := (b11'.cell (p := ⟨sa, 0, none⟩) LA10.out N7.out).trans A10.out
  have C11 : Hid (w11.cell? ⟨sb, 0, none⟩ = some (.slice fa 1 fc)) := (b11'.cell (p := ⟨sb, 0, none⟩) LB10.out N9.out).trans C10.out
  have I11 := hide (I10.out.but b11' (fun _ e => e))
  have LA11 : Hid (sa < w11.heap.size) := Nat.lt_of_lt_of_le LA10.out b11'.size
  have LB11 : Hid (sb < w11.heap.size) := Nat.lt_of_lt_of_le LB10.out b11'.size
  clear d11 b11 b11' R10 B10 A10 C10 I10 LA10 LB10 k0
  have XP := hide (Poll_up R11.out.p aOk6 aBd4 (by omega) (fun h => by have := a_up; have h1 := h.1; omega) (fun k hk => by rw [a_got.1] at hk; have hk0 : k = 0 := (by omega); subst hk0; exact a_rx) a_h3 a_sp)
  rw [a_come] at XP
  have k2 := R11.out.c2
  have FL : Hid (flc [(0, false)] = [.int .i64 0, .bool false]) := rfl
  go_wp2_with fail
  refine XP.out.mono ?_
  rintro _ w12 ⟨v, rfl, r12, p12, b12⟩
  have R12 : Hid (RigP (PK q) w12 x q 20 (aX.polled 20).D (aX.polled 20).B (aX.polled 20).s (aX.polled 20).c) := R11.out.did b12 p12
  have B12 := hide (B11.out.trans (b12.below B11.out.size KN.out))
  have A12 : Hid (w12.cell? ⟨sa, 0, none⟩ = some (.int .i64 1)) := (b12.cell (p := ⟨sa, 0, none⟩) LA11.out N7.out).trans A11.out
  have C12 : Hid (w12.cell? ⟨sb, 0, none⟩ = some (.slice fa 1 fc)) := (b12.cell (p := ⟨sb, 0, none⟩) LB11.out N9.out).trans C11.out
  have I12 := hide (I11.out.but b12 (fun _ e => e))
  obtain ⟨ra', rc', rfl, hra⟩ := row_shape r12
  obtain ⟨rg, rfl, hrg⟩ := hra.1 (by simp)
  have rr0 : w12.cell? ⟨rg, 0, none⟩ = some (.int .i64 0) := by rw [World.ownsRow.cellAt r12 0 (by simp)]; rfl
  have rr1 : w12.cell? ⟨rg, 1, none⟩ = some (.bool false) := by rw [World.ownsRow.cellAt r12 1 (by simp)]; rfl
  have RR := hide (And.intro rr0 rr1)
  clear p12 b12 r12 XP R11 B11 A11 C11 I11 LA11 LB11 k2 hra hrg rr1 rr0
  simp only [List.length_cons, List.length_nil, Nat.zero_add]
  go_upto_region 15 with fail
  have k1 := R12.out.c1
  obtain ⟨rr0, rr1⟩ := RR.out
  have XE : Hid (∀ W, Below w12.heap.size w12 W → Calls Try.prog 12 #[.pointer (some ⟨q.p, 0, none⟩), .int .i64 0] W fun e w' => ∃ rf ha hl hc da dc, e = .returned (.tuple #[.agg #[.int .i64 rf, .slice ha hl hc, .slice da 1 dc], .int .i64 0]) ∧ IsF (fun g => g < W.heap.size) w' (.slice da 1 dc) [121] ∧ Below W.heap.size W w') := fun W hb => by
    refine (See_any (R12.out.later hb).p.pool 0).mono ?_
    rintro e w' ⟨ha, hc, da, dc, rfl, hsn, hbw⟩
    have sd := hsn.d.isF (A := fun g => g < W.heap.size) (fun g hg e => by omega)
    rw [a_see2.2] at sd
    rw [a_see2.1, a_see2.2]
    exact ⟨_, _, _, _, _, _, rfl, sd, hbw⟩
  have b0 : But (fun _ => False) w12 (w12.alloc (.cells #[.int .i64 0, .slice none 0 0, .slice none 0 0] 35)) := (But.refl _ _).alloc _
  have B0 : Hid (Below w12.heap.size w12 (w12.alloc (.cells #[.int .i64 0, .slice none 0 0, .slice none 0 0] 35))) := b0.below (Nat.le_refl _) (fun _ _ => id)
  have T0 := hide (PTri.new w12 35)
  clear b0
  have u1 := World.block_lt_of_cell? w12 _ rr0
  have u2 := World.block_lt_of_cell? w12 _ k1
  have u3 : ¬ rg = w12.heap.size := by have u1 : rg < _ := u1; omega
  have u4 : ¬ w12.heap.size = rg := by have u1 : rg < _ := u1; omega
  have u5 : ¬ x = w12.heap.size := by have u2 : x < _ := u2; omega
  have u6 : ¬ w12.heap.size = x := by have u2 : x < _ := u2; omega
  go_cut [14, 15] (fun v14 v15 wc => v15 = .int .i64 0 ∧ ∃ sc da dc, v14 = .pointer (some ⟨sc, 0, none⟩) ∧ Hid (Below w12.heap.size w12 wc ∧ wc.cell? ⟨sc, 2, none⟩ = some (.slice da 1 dc) ∧ ∃ A, IsF A wc (.slice da 1 dc) [121]))
  case first =>
    go_region_with (first
      | (go_at_call 12; refine (XE.out w12.drew (undrew0 (Below.refl _ _))).mono ?_; rintro _ w13 ⟨rf, ha, hl, hc, da, dc, rfl, i13, b13⟩; have F13 := hide (sto1 i13 (undrew b13) rf (.slice ha hl hc)); clear i13 b13)
      | (go_at_call 12; refine (XE.out (w12.alloc (.cells #[.int .i64 0, .slice none 0 0, .slice none 0 0] 35)).drew (undrew0 B0.out)).mono ?_; rintro _ w13 ⟨rf, ha, hl, hc, da, dc, rfl, i13, b13⟩; have t13 := T0.out.but (But.of_below (K := fun _ => False) (undrew b13)) id; have e0 := t13.c0; have e1 := t13.c1; have e2 := t13.c2; have f0 := t13.f 0; have f1 := t13.f 1; have f2 := t13.f 2; have F13 := hide (sto3 i13 (undrew b13) B0.out t13 rf (.slice ha hl hc) (.slice da 1 dc)); clear i13 b13 t13))
    all_goals go_wp2
    all_goals go_meet
    all_goals exact ⟨rfl, _, _, _, rfl, F13.out⟩
  case rest =>
    obtain ⟨rfl, sc, da, dc, rfl, hcut2⟩ := hcut
    obtain ⟨b13, c13, A13, i13⟩ := hcut2.out
    have R13 := hide (R12.out.later b13)
    have B13 := hide (B12.out.trans (b13.mono B12.out.size))
    have la := World.block_lt_of_cell? w12 _ A12.out
    have lb := World.block_lt_of_cell? w12 _ C12.out
    have lr := World.block_lt_of_cell? w12 _ rr0
    have a13 := (b13.cell (p := ⟨sa, 0, none⟩) la).trans A12.out
    have d13 := (b13.cell (p := ⟨sb, 0, none⟩) lb).trans C12.out
    have r13 := (b13.cell (p := ⟨rg, 1, none⟩) lr).trans rr1
    have cx := conv_str (I12.out.later b13)
    have cy := conv_str i13
    rw [show strB [120] = { data := #[120] } from by decide] at cx
    rw [show strB [121] = { data := #[121] } from by decide] at cy
    have k2 := R13.out.c2
    have XS := hide (Sending_any R13.out.p)
    rw [a_end.1] at XS
    clear hcut2 b13 i13 la lb lr rr0 rr1 RR XE R12 B12 A12 C12 I12 k1
    go_wp2_with fail
    refine XS.out.mono ?_
    rintro _ w14 ⟨v, rfl, r14, b14⟩
    obtain ⟨va, vc, rfl, _⟩ := row_shape r14
    have R14 := hide (R13.out.later b14)
    have B14 := hide (B13.out.trans (b14.mono B13.out.size))
    have k2 := R14.out.c2
    have XC := hide (Coming_any R14.out.p)
    rw [a_end.2] at XC
    clear r14 b14 XS R13 B13
    go_wp2_with fail
    refine XC.out.mono ?_
    rintro _ w15 ⟨v, rfl, r15, b15⟩
    obtain ⟨ua, uc, rfl, _⟩ := row_shape r15
    have R15 := hide (R14.out.later b15)
    have B15 := hide (B14.out.trans (b15.mono B14.out.size))
    have k2 := R15.out.c2
    have XM := hide (Room_any R15.out.p)
    rw [a_end.1] at XM
    clear r15 b15 XC R14 B14
    go_wp2_with fail
    refine XM.out.mono ?_
    rintro _ _ ⟨rfl, rfl⟩
    go_wp2
    go_ret
    exact ⟨rfl, B15.out⟩
end Go.Proofs.Ytjkfjijnjkpbbaa
