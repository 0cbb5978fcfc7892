
/-
  Package ether: a head as numbers; the contracts of All, within, isOfMany, headSize, isIn, mayBe.
-/
import Derived.Test.YtipebfaappangaaNBase
import Derived.ChangeKeysEq
namespace Go.Proofs.Ytipebfaappangaa
open Go.RowKit

/-- an address, and a head -/
structure M6 where
  a : Int
  b : Int
  c : Int
  d : Int
  e : Int
  f : Int
deriving DecidableEq
structure Fr where
  dst : M6
  src : M6
  tag : Bool
  vlan : Int
  prio : Int
  ty : Int
deriving DecidableEq
def M6.cells (m : M6) : Array Value := #[.int .u8 m.a, .int .u8 m.b, .int .u8 m.c, .int .u8 m.d, .int .u8 m.e, .int .u8 m.f]
def M6.val (m : M6) : Value := .agg m.cells
def Fr.cells (f : Fr) : Array Value := #[.int .u8 f.dst.a, .int .u8 f.dst.b, .int .u8 f.dst.c, .int .u8 f.dst.d, .int .u8 f.dst.e, .int .u8 f.dst.f, .int .u8 f.src.a, .int .u8 f.src.b, .int .u8 f.src.c, .int .u8 f.src.d, .int .u8 f.src.e, .int .u8 f.src.f, .bool f.tag, .int .i64 f.vlan, .int .i64 f.prio, .int .i64 f.ty]
def Fr.val (f : Fr) : Value := .agg f.cells

def mAll : M6 := ⟨255, 255, 255, 255, 255, 255⟩

theorem beq_dec (a b : Int) : (a == b) = decide (a = b) := by
  by_cases h : a = b
  · rw [decide_eq_true h, h]; exact beq_self_eq_true b
  · rw [decide_eq_false h]; exact beq_eq_false_iff_ne.2 h

theorem later {a b c : World} (h : Below a.heap.size a b) (k : Below b.heap.size b c) : Below a.heap.size a c := h.trans (k.mono h.size)
theorem undrew {a b : World} (h : Below a.drew.heap.size a.drew b) : Below a.heap.size a b := ⟨h.os, h.tape, h.output, h.size, h.block⟩
theorem later_drew (w : World) : Below w.heap.size w w.drew := ⟨rfl, rfl, rfl, Nat.le_refl _, fun _ _ => rfl⟩
theorem later_drewN (w : World) (n : Nat) : Below w.heap.size w (w.drewN n) := below_drewN (Below.refl _ _) n
theorem later_alloc (w : World) (o : Obj) : Below w.heap.size w (w.alloc o) := (Below.refl _ w).alloc (Nat.le_refl _) o

/-- the cells of block s hold it -/
structure FrAt (W : World) (s : Nat) (f : Fr) : Prop where
  c0 : W.cell? ⟨s, 0, none⟩ = some (.int .u8 f.dst.a)
  c1 : W.cell? ⟨s, 1, none⟩ = some (.int .u8 f.dst.b)
  c2 : W.cell? ⟨s, 2, none⟩ = some (.int .u8 f.dst.c)
  c3 : W.cell? ⟨s, 3, none⟩ = some (.int .u8 f.dst.d)
  c4 : W.cell? ⟨s, 4, none⟩ = some (.int .u8 f.dst.e)
  c5 : W.cell? ⟨s, 5, none⟩ = some (.int .u8 f.dst.f)
  c6 : W.cell? ⟨s, 6, none⟩ = some (.int .u8 f.src.a)
  c7 : W.cell? ⟨s, 7, none⟩ = some (.int .u8 f.src.b)
  c8 : W.cell? ⟨s, 8, none⟩ = some (.int .u8 f.src.c)
  c9 : W.cell? ⟨s, 9, none⟩ = some (.int .u8 f.src.d)
  c10 : W.cell? ⟨s, 10, none⟩ = some (.int .u8 f.src.e)
  c11 : W.cell? ⟨s, 11, none⟩ = some (.int .u8 f.src.f)
  c12 : W.cell? ⟨s, 12, none⟩ = some (.bool f.tag)
  c13 : W.cell? ⟨s, 13, none⟩ = some (.int .i64 f.vlan)
  c14 : W.cell? ⟨s, 14, none⟩ = some (.int .i64 f.prio)
  c15 : W.cell? ⟨s, 15, none⟩ = some (.int .i64 f.ty)
  fz : ∀ k, W.frozen? ⟨s, k, none⟩ = false
theorem FrAt.lt {W : World} {s : Nat} {f : Fr} (h : FrAt W s f) : s < W.heap.size := World.block_lt_of_cell? W _ h.c0
theorem FrAt.but {W W' : World} {s : Nat} {f : Fr} {K : Nat → Prop} (h : FrAt W s f) (hb : But K W W') (hk : ¬ K s) : FrAt W' s f :=
  ⟨(hb.cell (p := ⟨s, 0, none⟩) h.lt hk).trans h.c0, (hb.cell (p := ⟨s, 1, none⟩) h.lt hk).trans h.c1, (hb.cell (p := ⟨s, 2, none⟩) h.lt hk).trans h.c2, (hb.cell (p := ⟨s, 3, none⟩) h.lt hk).trans h.c3, (hb.cell (p := ⟨s, 4, none⟩) h.lt hk).trans h.c4, (hb.cell (p := ⟨s, 5, none⟩) h.lt hk).trans h.c5, (hb.cell (p := ⟨s, 6, none⟩) h.lt hk).trans h.c6, (hb.cell (p := ⟨s, 7, none⟩) h.lt hk).trans h.c7, (hb.cell (p := ⟨s, 8, none⟩) h.lt hk).trans h.c8, (hb.cell (p := ⟨s, 9, none⟩) h.lt hk).trans h.c9, (hb.cell (p := ⟨s, 10, none⟩) h.lt hk).trans h.c10, (hb.cell (p := ⟨s, 11, none⟩) h.lt hk).trans h.c11, (hb.cell (p := ⟨s, 12, none⟩) h.lt hk).trans h.c12, (hb.cell (p := ⟨s, 13, none⟩) h.lt hk).trans h.c13, (hb.cell (p := ⟨s, 14, none⟩) h.lt hk).trans h.c14, (hb.cell (p := ⟨s, 15, none⟩) h.lt hk).trans h.c15, fun k => (hb.frozen (p := ⟨s, k, none⟩) h.lt hk).trans (h.fz k)⟩
theorem FrAt.new (w : World) (f : Fr) (t : TypeId) : FrAt (w.alloc (.cells f.cells t)) w.heap.size f := by
  have hc : ∀ i v, (f.cells : Array Value)[i]? = some v → (w.alloc (.cells f.cells t)).cell? ⟨w.heap.size, i, none⟩ = some v := fun i v h => by
    rw [cell_of_row _ w.heap.size i _ t (0, 0) (heap_alloc_new w _)]; exact h
  refine ⟨hc 0 _ rfl, hc 1 _ rfl, hc 2 _ rfl, hc 3 _ rfl, hc 4 _ rfl, hc 5 _ rfl, hc 6 _ rfl, hc 7 _ rfl, hc 8 _ rfl, hc 9 _ rfl, hc 10 _ rfl, hc 11 _ rfl, hc 12 _ rfl, hc 13 _ rfl, hc 14 _ rfl, hc 15 _ rfl, fun k => ?_⟩
  unfold World.frozen?
  rw [heap_alloc_new w]
  simp
theorem FrAt.later {W W' : World} {s : Nat} {f : Fr} (h : FrAt W s f) (hb : Below W.heap.size W W') : FrAt W' s f := h.but (But.of_below (K := fun _ => False) hb) id
theorem FrAt.al {W : World} {s : Nat} {f : Fr} (h : FrAt W s f) (o : Obj) : FrAt (W.alloc o) s f := h.later (later_alloc _ _)

/-- the cells of block s hold it -/
structure MaAt (W : World) (s : Nat) (m : M6) : Prop where
  c0 : W.cell? ⟨s, 0, none⟩ = some (.int .u8 m.a)
  c1 : W.cell? ⟨s, 1, none⟩ = some (.int .u8 m.b)
  c2 : W.cell? ⟨s, 2, none⟩ = some (.int .u8 m.c)
  c3 : W.cell? ⟨s, 3, none⟩ = some (.int .u8 m.d)
  c4 : W.cell? ⟨s, 4, none⟩ = some (.int .u8 m.e)
  c5 : W.cell? ⟨s, 5, none⟩ = some (.int .u8 m.f)
  fz : ∀ k, W.frozen? ⟨s, k, none⟩ = false
theorem MaAt.lt {W : World} {s : Nat} {m : M6} (h : MaAt W s m) : s < W.heap.size := World.block_lt_of_cell? W _ h.c0
theorem MaAt.but {W W' : World} {s : Nat} {m : M6} {K : Nat → Prop} (h : MaAt W s m) (hb : But K W W') (hk : ¬ K s) : MaAt W' s m :=
  ⟨(hb.cell (p := ⟨s, 0, none⟩) h.lt hk).trans h.c0, (hb.cell (p := ⟨s, 1, none⟩) h.lt hk).trans h.c1, (hb.cell (p := ⟨s, 2, none⟩) h.lt hk).trans h.c2, (hb.cell (p := ⟨s, 3, none⟩) h.lt hk).trans h.c3, (hb.cell (p := ⟨s, 4, none⟩) h.lt hk).trans h.c4, (hb.cell (p := ⟨s, 5, none⟩) h.lt hk).trans h.c5, fun k => (hb.frozen (p := ⟨s, k, none⟩) h.lt hk).trans (h.fz k)⟩
theorem MaAt.new (w : World) (m : M6) (t : TypeId) : MaAt (w.alloc (.cells m.cells t)) w.heap.size m := by
  have hc : ∀ i v, (m.cells : Array Value)[i]? = some v → (w.alloc (.cells m.cells t)).cell? ⟨w.heap.size, i, none⟩ = some v := fun i v h => by
    rw [cell_of_row _ w.heap.size i _ t (0, 0) (heap_alloc_new w _)]; exact h
  refine ⟨hc 0 _ rfl, hc 1 _ rfl, hc 2 _ rfl, hc 3 _ rfl, hc 4 _ rfl, hc 5 _ rfl, fun k => ?_⟩
  unfold World.frozen?
  rw [heap_alloc_new w]
  simp
theorem MaAt.later {W W' : World} {s : Nat} {m : M6} (h : MaAt W s m) (hb : Below W.heap.size W W') : MaAt W' s m := h.but (But.of_below (K := fun _ => False) hb) id
theorem MaAt.al {W : World} {s : Nat} {m : M6} (h : MaAt W s m) (o : Obj) : MaAt (W.alloc o) s m := h.later (later_alloc _ _)

/-- are two addresses the same? -/
def eqM (m n : M6) : Bool := decide (m = n)
theorem eqM_self (m : M6) : eqM m m = true := decide_eq_true rfl
theorem eqM_six (a b c d e f a' b' c' d' e' f' : Int) : eqM ⟨a, b, c, d, e, f⟩ ⟨a', b', c', d', e', f'⟩ = (a == a' && (b == b' && (c == c' && (d == d' && (e == e' && f == f'))))) := by
  rw [Bool.eq_iff_iff]
  simp [eqM, M6.mk.injEq]

theorem eq_mac (w : World) (D : Nat) (a b c d e f a' b' c' d' e' f' : Int) :
    (Op.equalIn (D + 2) 23 (.agg #[.int .u8 a, .int .u8 b, .int .u8 c, .int .u8 d, .int .u8 e, .int .u8 f]) (.agg #[.int .u8 a', .int .u8 b', .int .u8 c', .int .u8 d', .int .u8 e', .int .u8 f'])).run Try.prog w = .ok (eqM ⟨a, b, c, d, e, f⟩ ⟨a', b', c', d', e', f'⟩) w := by
  obtain ⟨i0, hi, hz0, hz1, hz2⟩ := info_parts info_u8
  rw [run_equalIn_array (P := Try.prog) w (D + 1) _ _ Try.underlying23 hi, eqM_six]
  have hs : Try.prog.cellsOf 5 = 1 := by kernel_rfl
  rw [hs]
  simp only [show List.range 6 = [0, 1, 2, 3, 4, 5] from rfl, Op.eqItems, Sem.run_bind]
  simp [go_sem]
  repeat' split
  all_goals simp [*]

theorem All_any (w : World) : Calls Try.prog 15 #[] w fun e w' => e = .returned mAll.val ∧ Below w.heap.size w w' := by
  go_enter Try.func15, Try.ntmps15
  go_wp2
  refine bodyPost_ret (v := mAll.val) (by simp [results, asAddr, go_sem, mAll, M6.val, M6.cells]) rfl ?_
  exact ⟨rfl, later_alloc _ _⟩

def wiB (n l m : Int) : Bool := decide (l ≤ n) && decide (n ≤ m)
theorem within_any (n l m : Int) (w : World) : Calls Try.prog 23 #[.int .i64 n, .int .i64 l, .int .i64 m] w fun e w' => e = .returned (.bool (wiB n l m)) ∧ w' = w := by
  by_cases h : l ≤ n
  · go_enter Try.func23, Try.ntmps23
    go_wp2
    go_ret
    exact ⟨by simp [wiB, h], rfl⟩
  · go_enter Try.func23, Try.ntmps23
    go_wp2
    go_ret
    have h2 : ¬ l ≤ n := by omega
    exact ⟨by simp [wiB, h2], rfl⟩

theorem isOfMany_any (m : M6) (w : World) (h0 : 0 ≤ m.a) (h1 : m.a ≤ 255) : Calls Try.prog 21 #[m.val] w fun e w' => e = .returned (.bool (decide (m.a % 2 = 1))) ∧ Below w.heap.size w w' := by
  obtain ⟨a, b, c, d, e, f⟩ := m
  simp only [M6.val, M6.cells] at h0 h1 ⊢
  go_enter Try.func21, Try.ntmps21
  go_wp2
  go_ret
  exact ⟨by rw [← beq_dec]; rfl, later_alloc _ _⟩

def hsz (t : Bool) : Nat := if t = true then 18 else 14
theorem headSize_any (f : Fr) (w : World) : Calls Try.prog 19 #[f.val] w fun e w' => e = .returned (.int .i64 (hsz f.tag)) ∧ Below w.heap.size w w' := by
  obtain ⟨⟨d0, d1, d2, d3, d4, d5⟩, ⟨s0, s1, s2, s3, s4, s5⟩, t, v, p, y⟩ := f
  simp only [Fr.val, Fr.cells]
  cases t
  · go_enter Try.func19, Try.ntmps19
    go_wp2
    go_ret
    exact ⟨rfl, later_alloc _ _⟩
  · go_enter Try.func19, Try.ntmps19
    go_wp2
    go_ret
    exact ⟨rfl, later_alloc _ _⟩

/-- is it in this VLAN? -/
def inB (f : Fr) (vlan : Int) : Bool := if vlan < 0 then !f.tag || decide (f.vlan = 0) else f.tag && decide (f.vlan = vlan)
theorem isIn_any (f : Fr) (vlan : Int) (w : World) : Calls Try.prog 22 #[f.val, .int .i64 vlan] w fun e w' => e = .returned (.bool (inB f vlan)) ∧ Below w.heap.size w w' := by
  obtain ⟨⟨d0, d1, d2, d3, d4, d5⟩, ⟨s0, s1, s2, s3, s4, s5⟩, t, v, p, y⟩ := f
  simp only [Fr.val, Fr.cells]
  cases t
  · by_cases h : vlan < 0
    · go_enter Try.func22, Try.ntmps22
      go_wp2
      go_ret
      exact ⟨by simp [inB, h], later_alloc _ _⟩
    · go_enter Try.func22, Try.ntmps22
      go_wp2
      go_ret
      have h2 : ¬ vlan < 0 := by omega
      exact ⟨by simp [inB, h2], later_alloc _ _⟩
  · by_cases h : vlan < 0
    · go_enter Try.func22, Try.ntmps22
      go_wp2
      go_ret
      exact ⟨by simp [inB, h, beq_dec], later_alloc _ _⟩
    · go_enter Try.func22, Try.ntmps22
      go_wp2
      go_ret
      have h2 : ¬ vlan < 0 := by omega
      exact ⟨by simp [inB, h2, beq_dec], later_alloc _ _⟩

/-- may there be such a head? -/
def mbB (f : Fr) : Bool := (wiB f.ty 1536 65535 && !decide (f.ty = 33024)) && wiB f.vlan 0 (if f.tag = true then 4095 else 0) && wiB f.prio 0 (if f.tag = true then 7 else 0)

set_option maxHeartbeats 1000000 in
theorem mayBe_any (f : Fr) (w : World) : Calls Try.prog 16 #[f.val] w fun e w' => e = .returned (.bool (mbB f)) ∧ Below w.heap.size w w' := by
  obtain ⟨⟨d0, d1, d2, d3, d4, d5⟩, ⟨s0, s1, s2, s3, s4, s5⟩, t, v, p, y⟩ := f
  simp only [Fr.val, Fr.cells]
  obtain ⟨V, P, hV, hP⟩ : ∃ V P : Int, V = (if t = true then 4095 else 0) ∧ P = (if t = true then 7 else 0) := ⟨_, _, rfl, rfl⟩
  have E : mbB ⟨⟨d0, d1, d2, d3, d4, d5⟩, ⟨s0, s1, s2, s3, s4, s5⟩, t, v, p, y⟩ = (((wiB y 1536 65535 && !decide (y = 33024)) && wiB v 0 V) && wiB p 0 P) := by rw [hV, hP]; rfl
  rw [E]
  clear E
  have HV := hide hV
  have HP := hide hP
  clear hV hP
  go_enter Try.func16, Try.ntmps16
  go_upto_if 6 with fail
  go_cut [3, 4] (fun v3 v4 wc => wc = w.alloc (.cells #[.int .u8 d0, .int .u8 d1, .int .u8 d2, .int .u8 d3, .int .u8 d4, .int .u8 d5, .int .u8 s0, .int .u8 s1, .int .u8 s2, .int .u8 s3, .int .u8 s4, .int .u8 s5, .bool t, .int .i64 v, .int .i64 p, .int .i64 y] 25) ∧ v3 = .int .i64 V ∧ v4 = .int .i64 P)
  case first =>
    cases t
    · go_wp2
      go_meet
      case rel => exact ⟨rfl, by rw [HV.out]; rfl, by rw [HP.out]; rfl⟩
    · go_wp2
      go_meet
      case rel => exact ⟨rfl, by rw [HV.out]; rfl, by rw [HP.out]; rfl⟩
  case rest =>
    obtain ⟨rfl, rfl, rfl⟩ := hcut
    clear HV HP
    go_wp2_with fail
    refine (within_any _ _ _ _).mono ?_
    rintro e w' ⟨rfl, rfl⟩
    cases b1 : wiB y 1536 65535
    · go_wp2
      go_ret
      exact ⟨by simp [b1], later_alloc _ _⟩
    · by_cases h2 : y = 33024
      · have h3 : (y == 33024) = true := by rw [beq_dec]; exact decide_eq_true h2
        go_wp2
        go_ret
        exact ⟨by simp [h2], later_alloc _ _⟩
      · have h3 : (y == 33024) = false := by rw [beq_dec]; exact decide_eq_false h2
        go_wp2_with fail
        refine (within_any _ _ _ _).mono ?_
        rintro e w' ⟨rfl, rfl⟩
        cases b2 : wiB v 0 V
        · go_wp2
          go_ret
          exact ⟨by simp [b2], later_alloc _ _⟩
        · go_wp2_with fail
          refine (within_any _ _ _ _).mono ?_
          rintro e w' ⟨rfl, rfl⟩
          go_wp2
          go_ret
          exact ⟨by simp [b1, b2, h2], later_alloc _ _⟩

end Go.Proofs.Ytipebfaappangaa
