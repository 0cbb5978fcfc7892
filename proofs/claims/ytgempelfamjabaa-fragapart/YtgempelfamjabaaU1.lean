
/-
  Out of I13 I14 I15 I16 I17 I20 I21 I22 T10 T11 T15 T16 T18 T19 T21 T27: Pseudo_any, rPseudo_any, conv_same, lit_B, Gro.away, Gro.lies, Up, Up.now, Up.next, Up.and, CellsAt.up, Gro.up, IsB.up, exec_str, exec_eqs, exec_nes, exec_neErr, exec_neInt, turned, CellsAt.set.
-/
import Derived.Test.YtgempelfamjabaaT8
import Derived.Lib.SmallJoins
import Derived.Lib.SmallJoins
namespace Go.Proofs.Ytgempelfamjabaa
open Go.RowKit Go.Shelf

theorem conv_same (w : World) (C : Array Value) (n c : Nat) : (convert 24 24 (.slice (some ⟨w.heap.size, 0, none⟩) n c)).run Try.prog (w.alloc (.cells C 5)) = .ok (.slice (some ⟨w.heap.size, 0, none⟩) n c) (w.alloc (.cells C 5 (C.size, C.size + 1))) :=
  Lib.run_convert_bytes_const w _ _ C n c Try.underlying24 Try.underlying5
theorem lit_B (w : World) (bs : List Int) (fz : Nat × Nat) : IsB (w.heap.size + 1) (w.alloc (.cells (bs.map (Value.int .u8)).toArray 5 fz)) (.slice (some ⟨w.heap.size, 0, none⟩) bs.length bs.length) bs :=
  ⟨_, _, rfl, Nat.le_refl _, (fun h => by cases h), fun _ => ⟨w.heap.size, 0, rfl, by omega, fun j hj => by
    rw [Nat.zero_add, cell_of_row _ w.heap.size j (bs.map (Value.int .u8)).toArray 5 fz (heap_alloc_new w _)]
    simp [hj]⟩⟩
theorem Gro.cells {B : Nat} {W : World} {v : Value} {bs : List Int} (h : Gro B W v bs) (h0 : 0 < bs.length) : ∃ g c, v = .slice (some ⟨g, 0, none⟩) bs.length c ∧ B ≤ g ∧ g < W.heap.size ∧ bs.length ≤ c ∧ (∀ j, j < bs.length → W.cell? ⟨g, j, none⟩ = some (.int .u8 (nb bs j))) ∧ ∀ j, W.frozen? ⟨g, j, none⟩ = false := by
  obtain ⟨a, c, rfl, hc⟩ := h.isB.shape
  obtain ⟨g, rfl, hg, hcs, hf⟩ := h.block h0
  exact ⟨g, c, rfl, hg, World.block_lt_of_cell? W _ (hcs 0 h0), hc, hcs, hf⟩
/-- what a sum begins with -/
def psB (x y : I4) (p n : Int) : List Int := ipL x ++ (ipL y ++ ([0, p % 256] ++ put16 n))
theorem exec_conv8w {o : Oper} {w : World} {ev : Operand → Value} (x : Operand) (n : Int) (ho : o.op = .convert 3 5 x) (hx : ev x = .int .i64 n) : (execOp ev o).run Try.prog w = .ok (.value (.int .u8 (n % 256))) w := by
  have e : IntKind.u8.wrap n = n % 256 := by rw [IntKind.wrap_u8]
  unfold execOp
  simp [ho, hx, go_sem, e]
/-- two new variables with an address each -/
theorem twoI (w : World) (x y : I4) : ∃ w1 w2 s1 s2, s1 = w.heap.size ∧ w1 = w.alloc (.cells #[.int .u8 x.a, .int .u8 x.b, .int .u8 x.c, .int .u8 x.d] 23) ∧ s2 = w1.heap.size ∧ w2 = w1.alloc (.cells #[.int .u8 y.a, .int .u8 y.b, .int .u8 y.c, .int .u8 y.d] 23) ∧ CellsAt w2 s1 0 x.vals ∧ CellsAt w2 s2 0 y.vals ∧ Below w.heap.size w w2 ∧ s1 < w2.heap.size ∧ s2 < w2.heap.size ∧ s2 ≠ s1 := by
  refine ⟨_, _, _, _, rfl, rfl, rfl, rfl, (CellsAt.new w x.vals 23).later (by simp) (later_alloc _ _), CellsAt.new _ y.vals 23, (later_alloc w _).trans ((later_alloc _ _).mono (by simp)), by simp; omega, by simp, by simp⟩
theorem low_put (n : Int) : put16 (n % 65536) = put16 n := by
  unfold put16
  rw [show n % 65536 / 256 % 256 = n / 256 % 256 by omega, show n % 65536 % 256 = n % 256 by omega]
theorem low_mod (n : Int) : IntKind.u8.wrap ((n % 65536).tmod 256) = n % 256 := by
  rw [IntKind.wrap_u8, Int.tmod_eq_emod_of_nonneg (by omega)]
  omega
theorem exec_str {o : Oper} {w : World} {ev : Operand → Value} (x : Operand) (v : Value) (bs : List Int) (ho : o.op = .convert 24 9 x) (hx : ev x = v) (h : IsB w.heap.size w v bs) : (execOp ev o).run Try.prog w = .ok (.value (.string (strB bs))) w := by
  have e := conv_str h
  unfold execOp
  simp only [ho, hx, Sem.run_bind, Sem.run_pure, Result.andThen_ok, e]
theorem exec_eqs {o : Oper} {w : World} {ev : Operand → Value} (x y : Operand) (t : TypeId) (s : ByteArray) (ho : o.op = .binOp .eql 9 x y t) (hx : ev x = .string s) (hy : ev y = .string s) : (execOp ev o).run Try.prog w = .ok (.value (.bool true)) w := by
  unfold execOp
  simp [ho, hx, hy, go_sem]
theorem xor_bit : ∀ (x : Fin 256) (j : Fin 8), (bits BinOp.xor IntKind.u8 (x.val : Int) (2 ^ j.val % 256) - (x.val : Int) = 2 ^ j.val ∨ bits BinOp.xor IntKind.u8 (x.val : Int) (2 ^ j.val % 256) - (x.val : Int) = - 2 ^ j.val) ∧
    0 ≤ bits BinOp.xor IntKind.u8 (x.val : Int) (2 ^ j.val % 256) ∧ bits BinOp.xor IntKind.u8 (x.val : Int) (2 ^ j.val % 256) ≤ 255 := by decide +kernel
theorem xor_bit' (x : Int) (j : Nat) (x0 : 0 ≤ x) (x1 : x ≤ 255) (hj : j < 8) : (bits BinOp.xor IntKind.u8 x (2 ^ j % 256) - x = 2 ^ j ∨ bits BinOp.xor IntKind.u8 x (2 ^ j % 256) - x = - 2 ^ j) ∧
    0 ≤ bits BinOp.xor IntKind.u8 x (2 ^ j % 256) ∧ bits BinOp.xor IntKind.u8 x (2 ^ j % 256) ≤ 255 := by
  obtain ⟨n, rfl⟩ := Int.eq_ofNat_of_zero_le x0
  exact xor_bit ⟨n, by omega⟩ ⟨j, hj⟩
theorem turned (a : List Int) (k j : Nat) (Ba : Bytes a) (hk : k < a.length) (hj : j < 8) : csum a ≠ csum (a.set k (bits BinOp.xor IntKind.u8 (nb a k) (2 ^ j % 256))) := by
  obtain ⟨x0, x1⟩ := Ba.getD k
  have h := xor_bit' (nb a k) j x0 x1 hj
  have e := wsum_set a k (bits BinOp.xor IntKind.u8 (nb a k) (2 ^ j % 256)) hk
  have e : wsum (a.set k (bits BinOp.xor IntKind.u8 (nb a k) (2 ^ j % 256))) = wsum a + (bits BinOp.xor IntKind.u8 (nb a k) (2 ^ j % 256) - nb a k) * (if k % 2 = 0 then 256 else 1) := e
  generalize bits BinOp.xor IntKind.u8 (nb a k) (2 ^ j % 256) = y at *
  generalize nb a k = x at *
  have hp : ∃ d : Int, (d = 1 ∨ d = 2 ∨ d = 4 ∨ d = 8 ∨ d = 16 ∨ d = 32 ∨ d = 64 ∨ d = 128) ∧ (2 : Int) ^ j = d := by
    refine ⟨2 ^ j, ?_, rfl⟩
    have : j = 0 ∨ j = 1 ∨ j = 2 ∨ j = 3 ∨ j = 4 ∨ j = 5 ∨ j = 6 ∨ j = 7 := by omega
    rcases this with rfl | rfl | rfl | rfl | rfl | rfl | rfl | rfl <;> decide
  obtain ⟨d, hd, ed⟩ := hp
  rw [ed] at h
  have m1 := foldI_mod (wsum a)
  have m2 := foldI_mod (wsum (a.set k y))
  intro hc
  unfold csum at hc
  have hf : foldI (wsum a) = foldI (wsum (a.set k y)) := by omega
  rw [hf] at m1
  by_cases hk2 : k % 2 = 0
  · rw [if_pos hk2] at e
    omega
  · rw [if_neg hk2] at e
    omega
theorem str_fold : ∀ (bs : List Int) (r : ByteArray), (bs.foldl (fun r n => r.push (UInt8.ofNat n.toNat)) r).data.toList = r.data.toList ++ bs.map (fun n => UInt8.ofNat n.toNat)
  | [], r => by simp
  | x :: bs, r => by
    rw [List.foldl_cons, str_fold bs]
    simp [ByteArray.push]
theorem str_data (bs : List Int) : (strB bs).data.toList = bs.map (fun n => UInt8.ofNat n.toNat) := by
  unfold strB
  rw [str_fold]
  rfl
theorem byte_inj {x y : Int} (x0 : 0 ≤ x) (x1 : x ≤ 255) (y0 : 0 ≤ y) (y1 : y ≤ 255) (h : UInt8.ofNat x.toNat = UInt8.ofNat y.toNat) : x = y := by
  have h1 := congrArg UInt8.toNat h
  rw [UInt8.toNat_ofNat', UInt8.toNat_ofNat'] at h1
  omega
theorem map_inj : ∀ {X Y : List Int}, Bytes X → Bytes Y → X.map (fun n => UInt8.ofNat n.toNat) = Y.map (fun n => UInt8.ofNat n.toNat) → X = Y
  | [], [], _, _, _ => rfl
  | [], _ :: _, _, _, h => by simp at h
  | _ :: _, [], _, _, h => by simp at h
  | x :: X, y :: Y, hX, hY, h => by
    simp only [List.map_cons, List.cons.injEq] at h
    have hx := hX x (by simp)
    have hy := hY y (by simp)
    rw [byte_inj hx.1 hx.2 hy.1 hy.2 h.1, map_inj (fun z hz => hX z (by simp [hz])) (fun z hz => hY z (by simp [hz])) h.2]
theorem str_beq {X Y : List Int} (hX : Bytes X) (hY : Bytes Y) : ((strB X).toList == (strB Y).toList) = decide (X = Y) := by
  rw [ByteArray.toList_eq, ByteArray.toList_eq, str_data, str_data, Bool.eq_iff_iff]
  simp only [beq_iff_eq, decide_eq_true_eq]
  exact ⟨map_inj hX hY, fun e => by rw [e]⟩
theorem exec_nes {o : Oper} {w : World} {ev : Operand → Value} (x y : Operand) (t : TypeId) (X Y : List Int) (hX : Bytes X) (hY : Bytes Y) (ho : o.op = .binOp .neq 9 x y t) (hx : ev x = .string (strB X)) (hy : ev y = .string (strB Y)) : (execOp ev o).run Try.prog w = .ok (.value (.bool (!decide (X = Y)))) w := by
  have e := str_beq hX hY
  unfold execOp
  simp [ho, hx, hy, go_sem]
  by_cases h : X = Y
  · subst h; simp
  · rw [decide_eq_false h] at e
    rw [beq_eq_false_iff_ne] at e
    simp [e, h]
theorem Gro.away {B : Nat} {K : Nat → Prop} {A W : World} {v : Value} {bs : List Int} (h : Gro B A v bs) (hb : But K A W) (hk : ∀ g x y, v = .slice (some ⟨g, 0, none⟩) x y → ¬ K g) : Gro B W v bs := by
  obtain ⟨h1, h2 | ⟨g, cap, cur, rfl, hg, hh, r⟩⟩ := h
  · exact ⟨h1, .inl h2⟩
  · exact ⟨h1, .inr ⟨g, cap, cur, rfl, hg, by rw [hb.block g (Array.getElem?_eq_some_iff.1 hh).1 (hk g _ _ rfl)]; exact hh, r⟩⟩
theorem Gro.lies {B : Nat} {W : World} {v : Value} {bs : List Int} (h : Gro B W v bs) : ∀ g x y, v = .slice (some ⟨g, 0, none⟩) x y → B ≤ g ∧ g < W.heap.size := by
  intro g x y e
  obtain ⟨h1, ⟨rfl, _⟩ | ⟨g', cap, cur, rfl, hg, hh, r⟩⟩ := h
  · cases e
  · cases e
    exact ⟨hg, (Array.getElem?_eq_some_iff.1 hh).1⟩
/-- it holds, and will, as long as all that is there stays -/
def Up (a : World) (Φ : World → Prop) : Prop := ∀ W, Below a.heap.size a W → Φ W
theorem Up.now {a : World} {Φ : World → Prop} (h : Up a Φ) : Φ a := h a (Below.refl _ _)
theorem Up.next {a b : World} {Φ : World → Prop} (h : Up a Φ) (hb : Below a.heap.size a b) : Up b Φ := fun W hW => h W (later hb hW)
theorem Up.and {a : World} {Φ Ψ : World → Prop} (h : Up a Φ) (k : Up a Ψ) : Up a (fun W => Φ W ∧ Ψ W) := fun W hW => ⟨h W hW, k W hW⟩
theorem CellsAt.up {a : World} {s o : Nat} {vs : List Value} (h : CellsAt a s o vs) (hl : s < a.heap.size) : Up a (fun W => CellsAt W s o vs) := fun _ hW => h.later hl hW
theorem Gro.up {B : Nat} {a : World} {v : Value} {bs : List Int} (h : Gro B a v bs) : Up a (fun W => Gro B W v bs) := fun _ hW => h.later hW
theorem IsB.up {a : World} {v : Value} {bs : List Int} (h : IsB a.heap.size a v bs) : Up a (fun W => IsB W.heap.size W v bs) := fun _ hW => h.later hW
/-- what a quote says -/
structure Qu where
  src : I4
  dst : I4
  pr : Int
  sp : Int
  dp : Int
  sq : Int
def Qu.cells (q : Qu) : List Value := q.src.vals ++ (q.dst.vals ++ [.int .i64 q.pr, .int .i64 q.sp, .int .i64 q.dp, .int .u32 q.sq])
theorem CellsAt.set {W : World} {q : Nat} {vs : List Value} (h : CellsAt W q 0 vs) (k : Nat) (x : Value) : CellsAt (W.setCell ⟨q, k, none⟩ x) q 0 (vs.set k x) := by
  intro j v hv
  rw [Nat.zero_add]
  rw [List.getElem?_set] at hv
  by_cases e : k = j
  · subst e
    rw [if_pos rfl] at hv
    split at hv
    · rename_i hk
      cases hv
      have := h k _ (List.getElem?_eq_getElem hk)
      rw [Nat.zero_add] at this
      exact World.cell?_setCell_same _ _ _ this
    · cases hv
  · rw [if_neg e] at hv
    rw [setCell_out (fun e2 => e e2.symm)]
    have := h j v hv
    rw [Nat.zero_add] at this
    exact this
theorem exec_neErr {o : Oper} {w : World} {ev : Operand → Value} (x y : Operand) (t : TypeId) (a : Int) (ho : o.op = .binOp .neq 29 x y t) (hx : ev x = .int .i64 a) (hy : ev y = .int .i64 a) : (execOp ev o).run Try.prog w = .ok (.value (.bool false)) w := by
  unfold execOp
  simp [ho, hx, hy, go_sem]
theorem exec_neInt {o : Oper} {w : World} {ev : Operand → Value} (x y : Operand) (t : TypeId) (a : Int) (ho : o.op = .binOp .neq 3 x y t) (hx : ev x = .int .i64 a) (hy : ev y = .int .i64 a) : (execOp ev o).run Try.prog w = .ok (.value (.bool false)) w := by
  unfold execOp
  simp [ho, hx, hy, go_sem]
theorem exec_neb {o : Oper} {w : World} {ev : Operand → Value} (x y : Operand) (t : TypeId) (a : Bool) (ho : o.op = .binOp .neq 4 x y t) (hx : ev x = .bool a) (hy : ev y = .bool a) : (execOp ev o).run Try.prog w = .ok (.value (.bool false)) w := by
  unfold execOp
  simp [ho, hx, hy, go_sem]
theorem exec_gei2 {o : Oper} {w : World} {ev : Operand → Value} (x y : Operand) (t : TypeId) (a b : Int) (r : Bool) (ho : o.op = .binOp .geq 3 x y t) (hx : ev x = .int .i64 a) (hy : ev y = .int .i64 b) (hr : decide (b ≤ a) = r) : (execOp ev o).run Try.prog w = .ok (.value (.bool r)) w := by
  subst hr
  unfold execOp
  simp [ho, hx, hy, go_sem]

end Go.Proofs.Ytgempelfamjabaa
