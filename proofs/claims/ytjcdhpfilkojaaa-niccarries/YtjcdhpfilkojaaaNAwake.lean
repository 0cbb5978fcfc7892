/-
  The chapter's example (awake).
-/
import Derived.Test.YtjcdhpfilkojaaaNPlays
import Derived.Lib.SmallJoins
namespace Go.Proofs.Ytjcdhpfilkojaaa
open Go.RowKit

/-- the string of these bytes -/
def strB (bs : List Int) : ByteArray := bs.foldl (fun r n => r.push (UInt8.ofNat n.toNat)) ByteArray.empty

theorem conv_str {A : Nat → Prop} {W : World} {v : Value} {bs : List Int} (h : IsF A W v bs) : (convert 29 9 v).run Try.prog W = .ok (.string (strB bs)) W := by
  obtain ⟨a, cap, rfl, hl, hn, hc⟩ := h
  rw [run_convert_bytes_string (P := Try.prog) W 29 9 5 a bs.length cap Try.underlying29 Try.underlying5 Try.underlying9]
  cases a with
  | none =>
    have h0 := hn rfl
    have : bs = [] := List.eq_nil_of_length_eq_zero (by omega)
    subst this
    rfl
  | some ad =>
    refine run_bytesToString W ad bs.length cap bs ?_
    have := run_loadCells_list (P := Try.prog) W ad (bs.map (Value.int .u8)) (fun j v hv => by
      have hj : j < bs.length := by have := (List.getElem?_eq_some_iff.1 hv).1; simpa using this
      obtain ⟨b, off, e, _, _, hcs⟩ := hc (by omega)
      cases e
      rw [Addr.add_lit, hcs j hj]
      simp only [List.getElem?_map, List.getElem?_eq_getElem hj, Option.map_some, Option.some.injEq] at hv
      simp [List.getElem?_eq_getElem hj, hv])
    simpa using this

/-- bytes that were written out lie in a new block -/
theorem lit_F (w : World) (bs : List Int) (A : Nat → Prop) (hA : ¬ A w.heap.size) (fr : Nat × Nat) : IsF A (w.alloc (.cells (bs.map (Value.int .u8)).toArray 5 fr)) (.slice (some ⟨w.heap.size, 0, none⟩) bs.length bs.length) bs := by
  refine ⟨_, _, rfl, Nat.le_refl _, (fun e => by cases e), fun _ => ⟨w.heap.size, 0, rfl, by simp, hA, fun j hj => ?_⟩⟩
  rw [Nat.zero_add, cell_of_row _ w.heap.size j _ 5 fr (heap_alloc_new w _)]
  simp [hj]

theorem size_le {K : Nat → Prop} {A : Nat → Prop} {w w' : World} (hA : ∀ g, A g → g < w.heap.size) (hb : But K w w') : ∀ g, A g → g < w'.heap.size := fun g hg => Nat.lt_of_lt_of_le (hA g hg) hb.size

theorem conv_same (w : World) (C : Array Value) (n c : Nat) : (convert 29 29 (.slice (some ⟨w.heap.size, 0, none⟩) n c)).run Try.prog (w.alloc (.cells C 5)) = .ok (.slice (some ⟨w.heap.size, 0, none⟩) n c) (w.alloc (.cells C 5 (C.size, C.size + 1))) :=
  Lib.run_convert_bytes_const w _ _ C n c Try.underlying29 Try.underlying5

def aw1 : Dev := Dev.new.stD 0 [97]
def aw2 : Dev := aw1.wrD 5 1
def aw3 : Dev := aw2.tkD
def aw4 : Dev := aw3.wrD 0 1
def aw5 : Dev := aw4.tkD
def aw6 : Dev := aw5.tkD
def aw7 : Dev := aw6.srD 0 3
def aw8 : Dev := aw7.wrD 3 1
def aw9 : Dev := aw8.gvD [97, 98, 99, 100] false
def awA : Dev := aw9.gvD [97, 98, 99] true
theorem ok1 : aw1.Ok := Dev.Ok.new.st _ _
theorem ok2 : aw2.Ok := ok1.wr _ _
theorem ok3 : aw3.Ok := ok2.tk
theorem ok4 : aw4.Ok := ok3.wr _ _
theorem ok5 : aw5.Ok := ok4.tk
theorem ok6 : aw6.Ok := ok5.tk
theorem ok7 : aw7.Ok := ok6.sr _ _
theorem ok8 : aw8.Ok := ok7.wr _ _
theorem ok9 : aw9.Ok := ok8.gv _ _
theorem okA : awA.Ok := ok9.gv _ _

/-- the frame that was taken -/
def Xs (g s : Nat) (a : Option Addr) (c : Nat) (W : World) : Prop := IsF (Only g) W (.slice a 1 c) [97] ∧ W.cell? ⟨s, 0, none⟩ = some (.slice a 1 c) ∧ s ≠ g ∧ s < W.heap.size
theorem Xs.but {g s : Nat} {a : Option Addr} {c : Nat} {W W' : World} (h : Xs g s a c W) (hb : But (Only g) W W') : Xs g s a c W' :=
  ⟨h.1.but hb (fun _ e => e), (hb.cell (p := ⟨s, 0, none⟩) h.2.2.2 h.2.2.1).trans h.2.1, h.2.2.1, Nat.lt_of_lt_of_le h.2.2.2 hb.size⟩
theorem lt_but {g : Nat} {A : Nat → Prop} {W W' : World} (h : ∀ x, A x → x < W.heap.size) (hb : But (Only g) W W') : ∀ x, A x → x < W'.heap.size := fun x e => Nat.lt_of_lt_of_le (h x e) hb.size
theorem but_alloc (g : Nat) (W : World) (o : Obj) : But (Only g) W (W.alloc o) := (But.refl _ _).alloc o
theorem DevAt.al {L : Lay} {A : Nat → Prop} {W : World} {b : Nat} {D : Dev} (h : DevAt L A W b D) (o : Obj) : DevAt L A (W.alloc o) b D := h.later ((Below.refl _ _).alloc (Nat.le_refl _) o)
theorem not_only {g : Nat} {W : World} (h : ∀ x, Only g x → x < W.heap.size) : ¬ Only g W.heap.size := fun e => by have h1 := h g rfl; have : W.heap.size = g := e; omega

set_option maxRecDepth 100000 in
set_option maxHeartbeats 4000000 in
theorem awake_any (w : World) : Calls Try.prog 7 #[] w fun e w' => e = .returned (.bool true) ∧ Below w.heap.size w w' := by
  have cv := conv_same
  go_enter Try.func7, Try.ntmps7
  go_wp2_with fail
  refine (New_any w).mono ?_
  rintro e w1 ⟨rfl, hN, hb, hs⟩
  obtain ⟨g, hg⟩ : ∃ g, g = w.heap.size := ⟨_, rfl⟩
  have d1 := hN (Only g) hg.symm
  rw [← hg] at d1 ⊢
  have hA : ∀ x, Only g x → x < w1.heap.size := fun x e => by have : x = g := e; omega
  have B0 := hide hb
  have HG := hide hg
  have L1 := hide hA
  have D1 := hide d1
  clear hN hb hs hA d1 hg
  go_wp2_with fail
  refine (SetTx_any (A' := Only g) (D1.out.al _) Dev.Ok.new (lt_but L1.out (but_alloc g _ _)) 0 _ [97] (lit_F w1 [97] (Only g) (not_only L1.out) _) (by simp)).mono ?_
  rintro e w2 ⟨rfl, d2, b2⟩
  rw [show Dev.new.stE 0 [97] = 0 from by decide]
  have B2 := hide ((but_alloc g w1 _).trans b2)
  have D2 : Hid (DevAt LN (Only g) w2 g aw1) := d2
  have L2 := hide (lt_but L1.out B2.out)
  clear d2 b2 L1 D1
  go_wp2_with fail
  refine (Write_any D2.out ok1 5 1).mono ?_
  rintro e w3 ⟨rfl, d3, b3⟩
  rw [show wrE 5 1 = 0 from by decide]
  have B3 := hide (B2.out.trans b3)
  have D3 : Hid (DevAt LN (Only g) w3 g aw2) := d3
  have L3 := hide (lt_but L2.out b3)
  clear d3 b3 L2 D2 B2
  have T := Take_any D3.out ok2
  simp only [show aw2.tkE = 20 from by decide, show aw2.tkF = [] from by decide, show aw2.tkT = 0 from by decide, List.length_nil] at T
  have HT := hide T
  clear T
  go_wp2_with fail
  refine (HT.out).mono ?_
  rintro e w4 ⟨a4, c4, rfl, _, d4, b4⟩
  have B4 := hide (B3.out.trans b4)
  have D4 : Hid (DevAt LN (Only g) w4 g aw3) := d4
  have L4 := hide (lt_but L3.out b4)
  clear d4 b4 L3 D3 B3 HT
  go_wp2_with fail
  refine (Write_any (D4.out.al _) ok3 0 1).mono ?_
  rintro e w5 ⟨rfl, d5, b5⟩
  rw [show wrE 0 1 = 0 from by decide]
  have B5 := hide (B4.out.trans ((but_alloc g w4 _).trans b5))
  have D5 : Hid (DevAt LN (Only g) w5 g aw4) := d5
  have L5 := hide (lt_but L4.out ((but_alloc g w4 _).trans b5))
  clear d5 b5 L4 D4 B4
  have T := Take_any D5.out ok4
  simp only [show aw4.tkE = 0 from by decide, show aw4.tkF = [97] from by decide, show aw4.tkT = 0 from by decide, List.length_cons, List.length_nil, Nat.zero_add] at T
  have HT := hide T
  clear T
  go_wp2_with fail
  refine (HT.out).mono ?_
  rintro e w6 ⟨a6, c6, rfl, g6, d6, b6⟩
  have B6 := hide (B5.out.trans b6)
  have D6 : Hid (DevAt LN (Only g) w6 g aw5) := d6
  have L6 := hide (lt_but L5.out b6)
  have F6 : Hid (IsF (Only g) w6 (.slice a6 1 c6) [97]) := g6.isF (fun x hx e => by have := L5.out x e; omega)
  clear d6 b6 L5 D5 B5 HT g6
  have X6 : Hid (∀ t, Xs g w6.heap.size a6 c6 (w6.alloc (.cells #[.slice a6 1 c6, .bool false, .int .i64 0] t))) := fun t =>
    ⟨F6.out.but (but_alloc g _ _) (fun _ e => e), by rw [cell_of_row _ w6.heap.size 0 _ t (0, 0) (heap_alloc_new w6 _)]; rfl, fun e => (not_only L6.out) e, by simp⟩
  obtain ⟨s, hs⟩ : ∃ s, s = w6.heap.size := ⟨_, rfl⟩
  have T := Take_any (D6.out.al (.cells #[.slice a6 1 c6, .bool false, .int .i64 0] 52)) ok5
  simp only [show aw5.tkE = 7 from by decide, show aw5.tkF = [] from by decide, show aw5.tkT = 0 from by decide, List.length_nil] at T
  have HT := hide T
  clear T
  go_wp2_with fail
  refine (HT.out).mono ?_
  rintro e w7 ⟨a7, c7, rfl, _, d7, b7⟩
  have B7 := hide (B6.out.trans ((but_alloc g w6 _).trans b7))
  have D7 : Hid (DevAt LN (Only g) w7 g aw6) := d7
  have L7 := hide (lt_but L6.out ((but_alloc g w6 _).trans b7))
  have X7 := hide ((X6.out _).but b7)
  rw [← hs] at X7 ⊢
  clear d7 b7 L6 D6 B6 HT X6 F6 hs
  go_wp2_with fail
  refine (SetRx_any (D7.out.al _) ok6 0 3).mono ?_
  rintro e w8 ⟨rfl, d8, b8⟩
  rw [show aw6.srE 0 3 = 0 from by decide]
  have B8 := hide (B7.out.trans ((but_alloc g w7 _).trans b8))
  have D8 : Hid (DevAt LN (Only g) w8 g aw7) := d8
  have L8 := hide (lt_but L7.out ((but_alloc g w7 _).trans b8))
  have X8 := hide (X7.out.but ((but_alloc g w7 _).trans b8))
  clear d8 b8 L7 D7 B7 X7
  go_wp2_with fail
  refine (Write_any D8.out ok7 3 1).mono ?_
  rintro e w9 ⟨rfl, d9, b9⟩
  rw [show wrE 3 1 = 0 from by decide]
  have B9 := hide (B8.out.trans b9)
  have D9 : Hid (DevAt LN (Only g) w9 g aw8) := d9
  have L9 := hide (lt_but L8.out b9)
  have X9 := hide (X8.out.but b9)
  clear d9 b9 L8 D8 B8 X8
  go_wp2_with fail
  refine (Give_any (A' := Only g) (D9.out.al _) ok8 (lt_but L9.out (but_alloc g _ _)) _ [97, 98, 99, 100] false (lit_F w9 [97, 98, 99, 100] (Only g) (not_only L9.out) _) (by simp)).mono ?_
  rintro e wa ⟨rfl, da, ba⟩
  rw [show aw8.gvE [97, 98, 99, 100] = 2 from by decide]
  have Ba := hide (B9.out.trans ((but_alloc g w9 _).trans ba))
  have Da : Hid (DevAt LN (Only g) wa g aw9) := da
  have La := hide (lt_but L9.out ((but_alloc g w9 _).trans ba))
  have Xa := hide (X9.out.but ((but_alloc g w9 _).trans ba))
  clear da ba L9 D9 B9 X9
  go_wp2_with fail
  refine (Give_any (A' := Only g) (Da.out.al _) ok9 (lt_but La.out (but_alloc g _ _)) _ [97, 98, 99] true (lit_F wa [97, 98, 99] (Only g) (not_only La.out) _) (by simp)).mono ?_
  rintro e wb ⟨rfl, db, bb⟩
  rw [show aw9.gvE [97, 98, 99] = 0 from by decide]
  have Bb := hide (Ba.out.trans ((but_alloc g wa _).trans bb))
  have Db : Hid (DevAt LN (Only g) wb g awA) := db
  have Lb := hide (lt_but La.out ((but_alloc g wa _).trans bb))
  have Xb := hide (Xa.out.but ((but_alloc g wa _).trans bb))
  clear db bb La Da Ba Xa
  have T := Rx_any Db.out okA 0
  simp only [show awA.rxE 0 = 0 from by decide, show awA.rxF 0 = [97, 98, 99] from by decide, show awA.rxB 0 = true from by decide, List.length_cons, List.length_nil, Nat.zero_add, Nat.reduceAdd] at T
  have HT := hide T
  clear T
  go_wp2_with fail
  refine (HT.out).mono ?_
  rintro e wc ⟨ac, cc, rfl, gc, bc⟩
  have Bc := hide (Bb.out.trans (But.of_below bc))
  have Dc := hide (Db.out.later bc)
  have Xc := hide (Xb.out.but (But.of_below bc))
  have Fc : Hid (IsF (Only g) wc (.slice ac 3 cc) [97, 98, 99]) := gc.isF (fun x hx e => by have := Lb.out x e; omega)
  clear gc bc Lb Db Bb Xb HT
  have T := Read_any Dc.out 7
  simp only [show awA.rdV 7 = 1 from by decide +kernel, show rdE 7 = 0 from by decide] at T
  have HT := hide T
  clear T
  go_wp2_with fail
  refine (HT.out).mono ?_
  rintro e wd ⟨rfl, _, bd⟩
  have Bd := hide (Bc.out.trans bd)
  obtain ⟨x1, x2, x3, x4⟩ := Xc.out.but bd
  have y1 := Fc.out.but bd (fun _ e => e)
  have cx := conv_str x1
  have cy := conv_str y1
  rw [show strB [97] = { data := #[97] } from by decide] at cx
  rw [show strB [97, 98, 99] = { data := #[97, 98, 99] } from by decide] at cy
  clear bd Bc Dc Xc Fc HT x1 y1 x3 x4
  go_wp2
  go_ret
  exact ⟨rfl, B0.out.trans (Bd.out.below B0.out.size (fun x hx e => by have := HG.out; have : x = g := e; omega))⟩

end Go.Proofs.Ytjcdhpfilkojaaa
