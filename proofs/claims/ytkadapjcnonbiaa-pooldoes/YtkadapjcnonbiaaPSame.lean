
/-
  same: do both say the same of a buffer?
-/
import Derived.Test.YtkadapjcnonbiaaR4
namespace Go.Proofs.Ytkadapjcnonbiaa
open Go.RowKit

/-- where the bytes lie -/
theorem Gro.block {B : Nat} {W : World} {a : Option Addr} {n c : Nat} {bs : List Int} (h : Gro B W (.slice a n c) bs) (h0 : 0 < bs.length) :
    ∃ g, a = some ⟨g, 0, none⟩ ∧ B ≤ g ∧ (∀ j, j < bs.length → W.cell? ⟨g, j, none⟩ = some (.int .u8 (bs[j]?.getD 0))) ∧ ∀ j, W.frozen? ⟨g, j, none⟩ = false := by
  have h' := h
  obtain ⟨_, ⟨e, h1⟩ | ⟨g, cap, cur, e, hg, _⟩⟩ := h
  · omega
  · simp only [Value.slice.injEq] at e
    obtain ⟨rfl, rfl, rfl⟩ := e
    refine ⟨g, rfl, hg, fun j hj => ?_, fun j => World.ownsRow.frozenAt h' j⟩
    rw [World.ownsRow.cellAt h' j (by omega)]
    simp [hj]
theorem Gro.store {B : Nat} {W : World} {g n c : Nat} {bs : List Int} (h : Gro B W (.slice (some ⟨g, 0, none⟩) n c) bs) (hn : n = bs.length) (k : Nat) (x : Int) :
    Gro B (W.setCell ⟨g, k, none⟩ (.int .u8 x)) (.slice (some ⟨g, 0, none⟩) n c) (bs.set k x) := by
  subst hn
  have := (World.ownsRow.stored h k (.int .u8 x)).1
  unfold Gro
  rw [List.length_set, List.map_set]
  exact this

theorem append_run2 {B : Nat} {A : Nat → Prop} {W : World} {a : Option Addr} {n c : Nat} {tv : Value} {xs ys : List Int} (hx : Gro B W (.slice a n c) xs) (hy : IsF A W tv ys) (hB : B ≤ W.heap.size) (hl : xs.length + ys.length ≤ 140737488355328) :
    ∃ v' w', (Builtin.append_ #[32, 32] 32 #[.slice a n c, tv]).run Try.prog W = .ok v' w' ∧ Gro B w' v' (xs ++ ys) ∧ But (fun k => a = some ⟨k, 0, none⟩) W w' := by
  obtain ⟨i0, hi, hz0, hz1, hz2⟩ := info_parts info_u8
  obtain ⟨ya, cap, rfl, hlc, hn, hc⟩ := hy
  cases ya with
  | none =>
    have h0 := hn rfl
    subst h0
    have : ys = [] := List.eq_nil_of_length_eq_zero (by omega)
    subst this
    have hrun := run_append_owned_none (P := Try.prog) W B 32 32 5 i0 1 Try.underlying32 hi _ xs.length _ hx
    exact ⟨_, W, hrun, by simpa using hx, But.refl _ _⟩
  | some ad =>
    obtain ⟨v', w', hrun, ho, hg, hnil⟩ := run_append_own (P := Try.prog) W B 32 32 5 i0 (.int .u8 0) 1 1 Try.underlying32 hi hz0 hz1 hz2 rfl (by decide) _ xs.length _ hx ad ys.length cap (ys.map (Value.int .u8)) (by simp)
      (fun j u hu => by
        have hj : j < ys.length := by have := (List.getElem?_eq_some_iff.1 hu).1; simpa using this
        obtain ⟨b, off, e, _, _, hcs⟩ := hc (by omega)
        cases e
        rw [Addr.add_lit, hcs j hj]
        simp only [List.getElem?_map, List.getElem?_eq_getElem hj, Option.map_some, Option.some.injEq] at hu
        simp [List.getElem?_eq_getElem hj, hu]) (ints_one _) (by unfold maxLen; omega) (by omega) hB
    refine ⟨v', w', hrun, ?_, ⟨hg.os, hg.tape, hg.output, hg.size, fun k hk hne => hg.block k hk (fun e => hne ?_)⟩⟩
    · have e : (xs ++ ys).length = xs.length + ys.length := by simp
      unfold Gro
      rw [e, List.map_append]
      exact ho
    · obtain ⟨_, ⟨e1, _⟩ | ⟨g, cp, cur, e1, _⟩⟩ := hx
      · simp only [Value.slice.injEq] at e1
        obtain ⟨rfl, _, _⟩ := e1
        simp [Value.ownBlock] at e
      · simp only [Value.slice.injEq] at e1
        obtain ⟨rfl, _, _⟩ := e1
        simp [Value.ownBlock] at e
        rw [e]
theorem wpList_grow2 {w : World} {ops : Array Oper} {rest : List Oper} {o : Oper} {a : Act} {Q : Exit → Act → World → Prop} (hg : o.guard = none) (s x : Operand)
    (hop : o.op = Op.call { callee := Callee.builtin Builtin.append, args := #[s, x], argTypes := #[32, 32] }) (hty : o.type = 32)
    (B : Nat) (A : Nat → Prop) (va : Option Addr) (vn vc : Nat) (tv : Value) (xs ys : List Int) (hs : a.eval s = .slice va vn vc) (hx : a.eval x = tv) (gx : Gro B w (.slice va vn vc) xs) (iy : IsF A w tv ys) (hB : B ≤ w.heap.size) (hl : xs.length + ys.length ≤ 140737488355328) (L : List Int) (hL : xs ++ ys = L)
    (hK : ∀ (a' : Option Addr) (cap' : Nat) (w' : World), L.length ≤ cap' → Gro B w' (.slice a' L.length cap') L → But (fun k => va = some ⟨k, 0, none⟩) w w' → wpList Try.prog ops Q rest (a.put o.dst (.slice a' L.length cap')) w') :
    wpList Try.prog ops Q (o :: rest) a w := by
  subst hL
  refine wpList_plain hg fun K hK' => ?_
  obtain ⟨v', w', hrun, g', b'⟩ := append_run2 gx iy hB hl
  obtain ⟨a', cap', rfl, hle⟩ := g'.shape
  unfold Oper.wp
  simp only [execOp, hop, hty]
  simp [resolve, invoke, builtin, hs, hx, hrun, Result.andThen, -List.length_append]
  exact hK' _ _ (hK a' cap' w' hle g' b')


/-- what 'same' has before it: a See's two answers, each in a struct of its own -/
structure Sm (w : World) (s1 s2 : Nat) (ha : Option Addr) (nh hc : Nat) (da : Option Addr) (nd dc : Nat) (bh : Option Addr) (bhc : Nat) (bd : Option Addr) (bdc : Nat) (wr : World) (xs ys : List Int) : Prop where
  a1 : wr.cell? ⟨s1, 1, none⟩ = some (.slice ha nh hc)
  a2 : wr.cell? ⟨s1, 2, none⟩ = some (.slice da nd dc)
  fz : ∀ k, wr.frozen? ⟨s1, k, none⟩ = false
  b1 : wr.cell? ⟨s2, 1, none⟩ = some (.slice bh nh bhc)
  b2 : wr.cell? ⟨s2, 2, none⟩ = some (.slice bd nd bdc)
  gh : Gro w.heap.size wr (.slice ha nh hc) xs
  gd : Gro w.heap.size wr (.slice da nd dc) ys
  lx : xs.length = nh
  ly : ys.length = nd
  ap : ∀ k, (Value.slice ha nh hc).ownBlock = some k → (Value.slice da nd dc).ownBlock ≠ some k
  nh1 : ∀ k, (Value.slice ha nh hc).ownBlock = some k → k ≠ s1 ∧ k ≠ s2
  nd1 : ∀ k, (Value.slice da nd dc).ownBlock = some k → k ≠ s1 ∧ k ≠ s2
  bel : Below w.heap.size w wr
  s0 : w.heap.size ≤ s1
  s12 : s1 ≠ s2

section
variable {w : World} {s1 s2 : Nat} {ha : Option Addr} {nh hc : Nat} {da : Option Addr} {nd dc : Nat} {bh : Option Addr} {bhc : Nat} {bd : Option Addr} {bdc : Nat} {wr : World} {xs ys : List Int}
theorem Sm.drew (h : Sm w s1 s2 ha nh hc da nd dc bh bhc bd bdc wr xs ys) : Sm w s1 s2 ha nh hc da nd dc bh bhc bd bdc wr.drew xs ys :=
  ⟨h.a1, h.a2, h.fz, h.b1, h.b2, h.gh.but (K := fun _ => False) (But.refl _ _).drew (fun _ e => e.elim), h.gd.but (K := fun _ => False) (But.refl _ _).drew (fun _ e => e.elim), h.lx, h.ly, h.ap, h.nh1, h.nd1, h.bel.trans (But.below (K := fun _ => False) (But.refl _ _).drew h.bel.size (fun _ _ => id)), h.s0, h.s12⟩
theorem Sm.head {kh : Nat} (h : Sm w s1 s2 (some ⟨kh, 0, none⟩) nh hc da nd dc bh bhc bd bdc wr xs ys) (hk : w.heap.size ≤ kh) (i : Nat) (y : Int) : Sm w s1 s2 (some ⟨kh, 0, none⟩) nh hc da nd dc bh bhc bd bdc (wr.setCell ⟨kh, i, none⟩ (.int .u8 y)) (xs.set i y) ys := by
  have hb := (But.refl (Only kh) wr).cellb i (.int .u8 y)
  have n1 := h.nh1 kh rfl
  have l1 : s1 < wr.heap.size := World.block_lt_of_cell? wr _ h.a1
  have l2 : s2 < wr.heap.size := World.block_lt_of_cell? wr _ h.b1
  exact ⟨(hb.cell (p := ⟨s1, 1, none⟩) l1 (fun e => n1.1 (Eq.symm e))).trans h.a1, (hb.cell (p := ⟨s1, 2, none⟩) l1 (fun e => n1.1 (Eq.symm e))).trans h.a2, fun k => (hb.frozen (p := ⟨s1, k, none⟩) l1 (fun e => n1.1 (Eq.symm e))).trans (h.fz k), (hb.cell (p := ⟨s2, 1, none⟩) l2 (fun e => n1.2 (Eq.symm e))).trans h.b1, (hb.cell (p := ⟨s2, 2, none⟩) l2 (fun e => n1.2 (Eq.symm e))).trans h.b2,
    h.gh.store h.lx.symm i y, h.gd.keep hb (fun k e1 e2 => h.ap kh rfl (by have e2 : k = kh := e2; rw [← e2]; exact e1)), by rw [List.length_set]; exact h.lx, h.ly, h.ap, h.nh1, h.nd1, h.bel.trans (hb.below h.bel.size (fun x hx e => by have e : x = kh := e; omega)), h.s0, h.s12⟩
theorem Sm.data {kh : Nat} (h : Sm w s1 s2 ha nh hc (some ⟨kh, 0, none⟩) nd dc bh bhc bd bdc wr xs ys) (hk : w.heap.size ≤ kh) (i : Nat) (y : Int) : Sm w s1 s2 ha nh hc (some ⟨kh, 0, none⟩) nd dc bh bhc bd bdc (wr.setCell ⟨kh, i, none⟩ (.int .u8 y)) xs (ys.set i y) := by
  have hb := (But.refl (Only kh) wr).cellb i (.int .u8 y)
  have n1 := h.nd1 kh rfl
  have l1 : s1 < wr.heap.size := World.block_lt_of_cell? wr _ h.a1
  have l2 : s2 < wr.heap.size := World.block_lt_of_cell? wr _ h.b1
  exact ⟨(hb.cell (p := ⟨s1, 1, none⟩) l1 (fun e => n1.1 (Eq.symm e))).trans h.a1, (hb.cell (p := ⟨s1, 2, none⟩) l1 (fun e => n1.1 (Eq.symm e))).trans h.a2, fun k => (hb.frozen (p := ⟨s1, k, none⟩) l1 (fun e => n1.1 (Eq.symm e))).trans (h.fz k), (hb.cell (p := ⟨s2, 1, none⟩) l2 (fun e => n1.2 (Eq.symm e))).trans h.b1, (hb.cell (p := ⟨s2, 2, none⟩) l2 (fun e => n1.2 (Eq.symm e))).trans h.b2,
    h.gh.keep hb (fun k e1 e2 => by have e2 : k = kh := e2; subst e2; exact h.ap k e1 rfl), h.gd.store h.ly.symm i y, h.lx, by rw [List.length_set]; exact h.ly, h.ap, h.nh1, h.nd1, h.bel.trans (hb.below h.bel.size (fun x hx e => by have e : x = kh := e; omega)), h.s0, h.s12⟩
end

theorem seX_le {w : World} {b g n : Nat} {B : Nat → Buf} (H : PoolAt w b g n B) (id : Int) : (seX n B id).head.length ≤ 104 ∧ (seX n B id).data.length ≤ 288 := by
  unfold seX
  split
  · rename_i hu
    obtain ⟨i, rfl, hi, hr⟩ := usd_yes hu
    rw [Int.toNat_natCast]
    exact ⟨(H.buf i hi).hle, (H.buf i hi).dle⟩
  · exact ⟨by simp, by simp⟩

set_option maxRecDepth 100000 in
set_option maxHeartbeats 4000000 in
theorem same_any {A : Nat → Prop} {w : World} {b g rb rg n : Nat} {B : Nat → Buf} (H : PoolAt w b g n B) (R : RPool A w rb rg n B) (ix : Int) :
    Calls Try.prog 11 #[.pointer (some ⟨b, 0, none⟩), .pointer (some ⟨rb, 0, none⟩), .int .i64 ix] w fun e w' => e = .returned (.bool true) ∧ Below w.heap.size w w' := by
  have S1 := hide (See_any H ix)
  have hle := seX_le H ix
  have HR := hide R
  clear H R
  obtain ⟨x, ex⟩ : ∃ x, x = seX n B ix := ⟨_, rfl⟩
  have RS := hide (fun (w' : World) (hb : Below w.heap.size w w') => rSee_any (HR.out.later hb) ix)
  rw [← ex] at S1 hle RS
  clear ex HR
  generalize hoE n B ix = er at *
  obtain ⟨rf, X1, X2⟩ := x
  simp only at S1 hle RS
  obtain ⟨l1, l2⟩ := hle
  obtain ⟨nh, enh⟩ : ∃ m, m = X1.length := ⟨_, rfl⟩
  obtain ⟨nd, end'⟩ : ∃ m, m = X2.length := ⟨_, rfl⟩
  rw [← enh] at S1 l1
  rw [← end'] at S1 l2
  have EH := hide enh
  have ED := hide end'
  clear enh end'
  go_enter Try.func11, Try.ntmps11
  go_wp2_with fail
  refine S1.out.mono ?_
  rintro e w1 ⟨ha, hc, da, dc, rfl, sn, b1⟩
  have T1 := Tell.new w1 (rf : Int) (.slice ha nh hc) (.slice da nd dc) 43
  have bA := b1.alloc b1.size (.cells #[.int .i64 (rf : Int), .slice ha nh hc, .slice da nd dc] 43)
  have SN := hide sn
  have HT1 := hide T1
  have RS2 := hide (RS.out _ bA)
  have BA := hide bA
  have SZ : Hid (w.heap.size ≤ w1.heap.size) := b1.size
  have SZ2 : Hid ((w1.alloc (.cells #[.int .i64 (rf : Int), .slice ha nh hc, .slice da nd dc] 43)).heap.size = w1.heap.size + 1) := by show _ = _; simp
  clear S1 sn b1 T1 bA RS
  go_wp2_with fail
  have BW2 : Hid (Below w1.heap.size w1 (w1.alloc (.cells #[.int .i64 (rf : Int), .slice ha nh hc, .slice da nd dc] 43))) := (Below.refl _ w1).alloc (Nat.le_refl _) _
  obtain ⟨s1, hs1⟩ : ∃ s1, s1 = w1.heap.size := ⟨_, rfl⟩
  rw [← hs1] at HT1 SZ SZ2 BW2 ⊢
  have HS1 := hide hs1
  clear hs1
  generalize w1.alloc (.cells #[.int .i64 (rf : Int), .slice ha nh hc, .slice da nd dc] 43) = w2 at *
  refine RS2.out.mono ?_
  rintro e w3 ⟨hv, dv, rfl, ih, id', b3⟩
  obtain ⟨bh, bhc, rfl, _, _⟩ := ih.shape
  obtain ⟨bd, bdc, rfl, _, _⟩ := id'.shape
  rw [← EH.out] at ih ⊢
  rw [← ED.out] at id' ⊢
  have T2 := Tell.new w3 (rf : Int) (.slice bh nh bhc) (.slice bd nd bdc) 43
  have b4 := b3.alloc b3.size (.cells #[.int .i64 (rf : Int), .slice bh nh bhc, .slice bd nd bdc] 43)
  have t1 := HT1.out.but (K := fun _ => False) (But.of_below b4) id
  have ih4 := ih.alloc (.cells #[.int .i64 (rf : Int), .slice bh nh bhc, .slice bd nd bdc] 43)
  have id4 := id'.alloc (.cells #[.int .i64 (rf : Int), .slice bh nh bhc, .slice bd nd bdc] 43)
  have lt1 : s1 < w2.heap.size := HT1.out.lt
  have lt2 : w2.heap.size ≤ w3.heap.size := b3.size
  have gw : ∀ {v : Value} {bs : List Int}, Gro w.heap.size w1 v bs → Gro w.heap.size (w3.alloc (.cells #[.int .i64 (rf : Int), .slice bh nh bhc, .slice bd nd bdc] 43)) v bs := fun {v bs} hG => (hG.but (K := fun _ => False) (But.of_below (by have := BW2.out; rw [HS1.out] at this; exact this)) (fun _ e => e.elim)).but (K := fun _ => False) (But.of_below b4) (fun _ e => e.elim)
  have SM : Sm w s1 w3.heap.size ha nh hc da nd dc bh bhc bd bdc (w3.alloc (.cells #[.int .i64 (rf : Int), .slice bh nh bhc, .slice bd nd bdc] 43)) X1 X2 := by
    refine ⟨t1.c1, t1.c2, t1.f, T2.c1, T2.c2, gw SN.out.h, gw SN.out.d, EH.out.symm, ED.out.symm, SN.out.ap, fun k e => ?_, fun k e => ?_, BA.out.trans (b4.mono BA.out.size), SZ.out, by omega⟩
    · have h1 := (SN.out.h.blk k e).2
      have h2 := HS1.out
      exact ⟨by omega, by omega⟩
    · have h1 := (SN.out.d.blk k e).2
      have h2 := HS1.out
      exact ⟨by omega, by omega⟩
  have x1 := conv_str (SM.gh.isF (A := fun _ => False) (fun _ _ => id))
  have x2 := conv_str (SM.gd.isF (A := fun _ => False) (fun _ _ => id))
  have x3 := conv_str ih4
  have x4 := conv_str id4
  have c0 := t1.c0
  have c1 := t1.c1
  have c2 := t1.c2
  have d0 := T2.c0
  have d1 := T2.c1
  have d2 := T2.c2
  have HSM := hide SM
  have z1 : (nh : Int) ≤ 104 := by omega
  have z2 : (nd : Int) ≤ 288 := by omega
  clear SM T2 t1 gw ih4 id4 ih id' b3 b4 RS2 HT1 BA SZ SZ2 BW2 HS1 SN lt1 lt2 l1 l2
  go_upto_region 3 with fail
  obtain ⟨s2, hs2⟩ : ∃ s2, s2 = w3.heap.size := ⟨_, rfl⟩
  rw [← hs2] at HSM d0 d1 d2 ⊢
  clear hs2
  generalize w3.alloc (.cells #[.int .i64 (rf : Int), .slice bh nh bhc, .slice bd nd bdc] 43) = w4 at *
  generalize strB X1 = sx at *
  generalize strB X2 = sy at *
  generalize (rf : Int) = rfi at *
  go_wp2
  clear x1 x2 x3 x4 c0 c1 c2 d0 d1 d2
  go_loopw [12] (fun v12 wr => ∃ (i : Nat) (xs : List Int), v12 = .int .i64 (i : Int) ∧ i ≤ nh ∧ Hid (Sm w s1 s2 ha nh hc da nd dc bh bhc bd bdc wr xs X2)) (fun v12 _ => nh - (intOf v12).toNat)
  case atStart => exact ⟨0, X1, rfl, Nat.zero_le _, HSM.out⟩
  case round =>
    obtain ⟨i, xs, rfl, hi, hS⟩ := hrel
    have q1 := hS.out.a1
    by_cases hil : i < nh
    · obtain ⟨kh, rfl, hkh, hcc, hff⟩ := hS.out.gh.block (by rw [hS.out.lx]; omega)
      have c5 := hcc i (by rw [hS.out.lx]; exact hil)
      have f5 := hff i
      have z5 : (i : Int) < nh := by omega
      clear hcc hff
      obtain ⟨z, ez⟩ : ∃ z, xs[i]?.getD 0 = z := ⟨_, rfl⟩
      rw [ez] at c5
      clear ez
      go_wp2
      go_region
      go_wp2
      go_roundw
      case rel => exact ⟨i + 1, xs.set i ((z + 1) % 256), by go_num, by omega, (hS.out.head hkh i _).drew⟩
      case measure => simp [intOf]; omega
    · obtain rfl : i = nh := by omega
      clear HSM
      go_wp2
      clear q1
      go_loopw [13] (fun v13 wr => ∃ (j : Nat) (ys : List Int), v13 = .int .i64 (j : Int) ∧ j ≤ nd ∧ Hid (Sm w s1 s2 ha i hc da nd dc bh bhc bd bdc wr xs ys)) (fun v13 _ => nd - (intOf v13).toNat)
      case atStart => exact ⟨0, X2, rfl, Nat.zero_le _, hS.out⟩
      case round =>
        obtain ⟨j, ys, rfl, hj, hS2⟩ := hrel
        have q2 := hS2.out.a2
        by_cases hjl : j < nd
        · obtain ⟨kh, rfl, hkh, hcc, hff⟩ := hS2.out.gd.block (by rw [hS2.out.ly]; omega)
          have c5 := hcc j (by rw [hS2.out.ly]; exact hjl)
          have f5 := hff j
          have z5 : (j : Int) < nd := by omega
          clear hcc hff
          obtain ⟨z, ez⟩ : ∃ z, ys[j]?.getD 0 = z := ⟨_, rfl⟩
          rw [ez] at c5
          clear ez
          go_wp2
          go_region
          go_wp2
          go_roundw
          case rel => exact ⟨j + 1, ys.set j ((z + 1) % 256), by go_num, by omega, (hS2.out.data hkh j _).drew⟩
          case measure => simp [intOf]; omega
        · obtain rfl : j = nd := by omega
          have q1 := hS2.out.a1
          have nbh : ∀ k, ha = some ⟨k, 0, none⟩ → k ≠ s1 ∧ k ≠ s2 := fun k e => hS2.out.nh1 k (by rw [e]; rfl)
          have nbd : ∀ k, da = some ⟨k, 0, none⟩ → k ≠ s1 ∧ k ≠ s2 := fun k e => hS2.out.nd1 k (by rw [e]; rfl)
          have NBH := hide nbh
          have NBD := hide nbd
          have lt1 : s1 < wr.heap.size := World.block_lt_of_cell? wr _ hS2.out.a1
          have lt2 : s2 < wr.heap.size := World.block_lt_of_cell? wr _ hS2.out.b1
          obtain ⟨L, eL⟩ : ∃ L, L = xs ++ [7] := ⟨_, rfl⟩
          obtain ⟨M, eM⟩ : ∃ M, M = ys ++ [7] := ⟨_, rfl⟩
          have LL : L.length = i + 1 := by rw [eL, List.length_append, hS2.out.lx]; rfl
          have ML : M.length = j + 1 := by rw [eM, List.length_append, hS2.out.ly]; rfl
          have EL := hide eL
          have EM := hide eM
          have HLL := hide LL
          have HML := hide ML
          clear eL eM LL ML nbh nbd hS
          obtain ⟨wq, rfl⟩ : ∃ wq : World, wq = wr := ⟨_, rfl⟩
          go_wp2_with (at_builtin; refine wpList_grow2 rfl _ _ rfl rfl w.heap.size (fun _ => False) _ _ _ _ xs [7] rfl rfl (hS2.out.gh.but (K := fun _ => False) ((But.refl _ _).alloc _) (fun _ e => e.elim)) (lit_F _ [7] _ id (0, 0)) (by have := hS2.out.bel.size; simp; omega) (by have := hS2.out.lx; simp; omega) L EL.out.symm ?_)
          intro a5 c5 w5 hc5 hG5 hB5
          have bT : But (fun k => ha = some ⟨k, 0, none⟩) wq w5 := ((But.refl _ wq).alloc _).trans hB5
          have k1 := (bT.cell (p := ⟨s1, 1, none⟩) lt1 (fun e => (NBH.out s1 e).1 rfl)).trans hS2.out.a1
          have k2 := (bT.cell (p := ⟨s1, 2, none⟩) lt1 (fun e => (NBH.out s1 e).1 rfl)).trans hS2.out.a2
          have kf : ∀ k, w5.frozen? ⟨s1, k, none⟩ = false := fun k => (bT.frozen (p := ⟨s1, k, none⟩) lt1 (fun e => (NBH.out s1 e).1 rfl)).trans (hS2.out.fz k)
          have k3 := (bT.cell (p := ⟨s2, 1, none⟩) lt2 (fun e => (NBH.out s2 e).2 rfl)).trans hS2.out.b1
          have k4 := (bT.cell (p := ⟨s2, 2, none⟩) lt2 (fun e => (NBH.out s2 e).2 rfl)).trans hS2.out.b2
          have gd5 := hS2.out.gd.keep bT (fun k e1 e2 => hS2.out.ap k (by rw [e2]; rfl) e1)
          have f1 := kf 1
          have GD5 := hide gd5
          have KF := hide kf
          have lt1' := Nat.lt_of_lt_of_le lt1 bT.size
          have lt2' := Nat.lt_of_lt_of_le lt2 bT.size
          have bU := bT.mono (K' := fun k => w.heap.size ≤ k) (fun k e => by subst e; exact (hS2.out.gh.blk k rfl).1)
          have BU := hide bU
          have s12 := hS2.out.s12
          have s21 : s2 ≠ s1 := fun e => s12 e.symm
          have s0 := hS2.out.s0
          clear hG5 hB5 bT gd5 kf q1 q2
          rw [HLL.out]
          go_upto_region 13 with fail
          have bV := (But.refl (Only s1) w5).cellb 1 (.slice a5 (i + 1) c5)
          have m1 : (w5.setCell ⟨s1, 1, none⟩ (.slice a5 (i + 1) c5)).cell? ⟨s1, 1, none⟩ = some (.slice a5 (i + 1) c5) := World.cell?_setCell_same' _ _ _ (by rw [k1]; rfl)
          have m2 : (w5.setCell ⟨s1, 1, none⟩ (.slice a5 (i + 1) c5)).cell? ⟨s1, 2, none⟩ = some (.slice da j dc) := (setCell_out (by omega)).trans k2
          have m3 := (bV.cell (p := ⟨s2, 1, none⟩) lt2' (fun e => s21 e)).trans k3
          have m4 := (bV.cell (p := ⟨s2, 2, none⟩) lt2' (fun e => s21 e)).trans k4
          have mf : ∀ k, (w5.setCell ⟨s1, 1, none⟩ (.slice a5 (i + 1) c5)).frozen? ⟨s1, k, none⟩ = false := fun k => (World.frozen?_setCell ..).trans (KF.out k)
          have gd6 := GD5.out.keep bV (fun k e1 e2 => (hS2.out.nd1 k e1).1 e2)
          have bW := BU.out.trans (bV.mono (K' := fun k => w.heap.size ≤ k) (fun k e => by have e : k = s1 := e; omega))
          have lt1'' : s1 < (w5.setCell ⟨s1, 1, none⟩ (.slice a5 (i + 1) c5)).heap.size := World.block_lt_of_cell? _ _ m1
          have lt2'' : s2 < (w5.setCell ⟨s1, 1, none⟩ (.slice a5 (i + 1) c5)).heap.size := World.block_lt_of_cell? _ _ m3
          have GD6 := hide gd6
          have BW := hide bW
          have MF := hide mf
          clear bV gd6 bW mf k1 k2 k3 k4 GD5 BU KF f1 lt1 lt2 lt1' lt2'
          generalize w5.setCell ⟨s1, 1, none⟩ (.slice a5 (i + 1) c5) = w6 at *
          go_wp2_with (at_builtin; refine wpList_grow2 rfl _ _ rfl rfl w.heap.size (fun _ => False) _ _ _ _ ys [7] rfl rfl (GD6.out.but (K := fun _ => False) ((But.refl _ _).alloc _) (fun _ e => e.elim)) (lit_F _ [7] _ id (0, 0)) (by have h1 := hS2.out.bel.size; have h2 := BW.out.size; simp; omega) (by have := hS2.out.ly; simp; omega) M EM.out.symm ?_)
          intro a7 c7 w7 hc7 hG7 hB7
          have bT : But (fun k => da = some ⟨k, 0, none⟩) w6 w7 := ((But.refl _ w6).alloc _).trans hB7
          have k1 := (bT.cell (p := ⟨s1, 1, none⟩) lt1'' (fun e => (NBD.out s1 e).1 rfl)).trans m1
          have k2 := (bT.cell (p := ⟨s1, 2, none⟩) lt1'' (fun e => (NBD.out s1 e).1 rfl)).trans m2
          have kf := (bT.frozen (p := ⟨s1, 2, none⟩) lt1'' (fun e => (NBD.out s1 e).1 rfl)).trans (MF.out 2)
          have k3 := (bT.cell (p := ⟨s2, 1, none⟩) lt2'' (fun e => (NBD.out s2 e).2 rfl)).trans m3
          have k4 := (bT.cell (p := ⟨s2, 2, none⟩) lt2'' (fun e => (NBD.out s2 e).2 rfl)).trans m4
          have bX := BW.out.trans (bT.mono (K' := fun k => w.heap.size ≤ k) (fun k e => by subst e; exact (hS2.out.gd.blk k rfl).1))
          have BX := hide bX
          clear hG7 hB7 bT bX m1 m2 m3 m4 GD6 MF BW
          rw [HML.out]
          go_wp2
          go_ret
          exact ⟨rfl, hS2.out.bel.trans ((BX.out.trans (((But.refl (Only s1) w7).cellb 2 (.slice a7 (j + 1) c7)).mono (K' := fun k => w.heap.size ≤ k) (fun k e => by have e : k = s1 := e; omega))).below hS2.out.bel.size (fun x hx e => by omega))⟩

end Go.Proofs.Ytkadapjcnonbiaa
