
/-
  The document's icmp: Decode.
-/
import Derived.Test.YtlhkdjockodneaaT15
namespace Go.Proofs.Ytlhkdjockodneaa
open Go.RowKit Go.Shelf

theorem str_fold : ∀ (bs : List Int) (r : ByteArray), (bs.foldl (fun r n => r.push (UInt8.ofNat n.toNat)) r).data.toList = r.data.toList ++ bs.map (fun n => UInt8.ofNat n.toNat)
  | [], r => by simp
  | x :: bs, r => by
    rw [List.foldl_cons, str_fold bs]
    simp [ByteArray.push]
theorem str_data (bs : List Int) : (strB bs).data.toList = bs.map (fun n => UInt8.ofNat n.toNat) := by
  unfold strB
  rw [str_fold]
  rfl
theorem byte_inj {x y : Int} (x0 : 0 ≤ x) (x1 : x ≤ 255) (y0 : 0 ≤ y) (y1 : y ≤ 255) (h : UInt8.ofNat x.toNat = UInt8.ofNat y.toNat) : x = y := by
  have h1 := congrArg UInt8.toNat h
  rw [UInt8.toNat_ofNat', UInt8.toNat_ofNat'] at h1
  omega
theorem map_inj : ∀ {X Y : List Int}, Bytes X → Bytes Y → X.map (fun n => UInt8.ofNat n.toNat) = Y.map (fun n => UInt8.ofNat n.toNat) → X = Y
  | [], [], _, _, _ => rfl
  | [], _ :: _, _, _, h => by simp at h
  | _ :: _, [], _, _, h => by simp at h
  | x :: X, y :: Y, hX, hY, h => by
    simp only [List.map_cons, List.cons.injEq] at h
    have hx := hX x (by simp)
    have hy := hY y (by simp)
    rw [byte_inj hx.1 hx.2 hy.1 hy.2 h.1, map_inj (fun z hz => hX z (by simp [hz])) (fun z hz => hY z (by simp [hz])) h.2]
theorem str_inj {X Y : List Int} (hX : Bytes X) (hY : Bytes Y) (h : strB X = strB Y) : X = Y := map_inj hX hY (by rw [← str_data, ← str_data, h])
theorem str_beq {X Y : List Int} (hX : Bytes X) (hY : Bytes Y) : ((strB X).toList == (strB Y).toList) = decide (X = Y) := by
  rw [ByteArray.toList_eq, ByteArray.toList_eq, str_data, str_data, Bool.eq_iff_iff]
  simp only [beq_iff_eq, decide_eq_true_eq]
  exact ⟨map_inj hX hY, fun e => by rw [e]⟩
theorem exec_str {o : Oper} {w : World} {ev : Operand → Value} (x : Operand) (v : Value) (bs : List Int) (ho : o.op = .convert 22 9 x) (hx : ev x = v) (h : IsB w.heap.size w v bs) : (execOp ev o).run Try.prog w = .ok (.value (.string (strB bs))) w := by
  have e := conv_str h
  unfold execOp
  simp only [ho, hx, Sem.run_bind, Sem.run_pure, Result.andThen_ok, e]
theorem exec_eqs {o : Oper} {w : World} {ev : Operand → Value} (x y : Operand) (t : TypeId) (s : ByteArray) (ho : o.op = .binOp .eql 9 x y t) (hx : ev x = .string s) (hy : ev y = .string s) : (execOp ev o).run Try.prog w = .ok (.value (.bool true)) w := by
  unfold execOp
  simp [ho, hx, hy, go_sem]
theorem exec_nes {o : Oper} {w : World} {ev : Operand → Value} (x y : Operand) (t : TypeId) (X Y : List Int) (hX : Bytes X) (hY : Bytes Y) (ho : o.op = .binOp .neq 9 x y t) (hx : ev x = .string (strB X)) (hy : ev y = .string (strB Y)) : (execOp ev o).run Try.prog w = .ok (.value (.bool (!decide (X = Y)))) w := by
  have e := str_beq hX hY
  unfold execOp
  simp [ho, hx, hy, go_sem]
  by_cases h : X = Y
  · subst h; simp
  · rw [decide_eq_false h] at e
    rw [beq_eq_false_iff_ne] at e
    simp [e, h]
theorem rAt2_val (v : Value) (bs : List Int) (k : Nat) (W : World) (hb : IsB W.heap.size W v bs) (hB : Bytes bs) (hl : (bs.length : Int) ≤ 4611686018427387904) (hk : k + 2 ≤ bs.length) :
    Calls Try.prog 39 #[v, .int .i64 (k : Int), .int .i64 2] W fun e W' => e = .returned (.int .i64 (w16 bs k)) ∧ W' = W :=
  (rAt2_any v bs (k : Int) W hb hB hl).mono (by
    rintro _ W' ⟨rfl, h⟩
    refine ⟨?_, h⟩
    rw [if_pos (by unfold stB; exact decide_eq_true ⟨by omega, by omega⟩), rd16_at hk])
def rrI (bs : List Int) : Int := if ech (nb bs 0) = true then w16 bs 4 else 0
/-- the document's message, and its bytes -/
def rrO (bs : List Int) : Bool := mbI (nb bs 0) (nb bs 1) (rrI bs) (rdS bs) (rdU bs)
def rrL (bs : List Int) : List Int := ldB (nb bs 0) (nb bs 1) (rrI bs) (rdS bs) (rdU bs) (bs.drop 8) (w16 bs 2)
theorem put16_w {bs : List Int} (hB : Bytes bs) (k : Nat) : put16 (w16 bs k) = [nb bs k, nb bs (k + 1)] := by
  have h0 := nb_bd hB k
  have h1 := nb_bd hB (k + 1)
  unfold put16 w16
  rw [show (256 * nb bs k + nb bs (k + 1)) / 256 % 256 = nb bs k by omega, show (256 * nb bs k + nb bs (k + 1)) % 256 = nb bs (k + 1) by omega]
theorem first8 {bs : List Int} (h : 8 ≤ bs.length) : bs = [nb bs 0, nb bs 1] ++ ([nb bs 2, nb bs 3] ++ (([nb bs 4, nb bs 5] ++ [nb bs 6, nb bs 7]) ++ bs.drop 8)) := by
  match bs, h with
  | a :: b :: c :: d :: e :: f :: g :: i :: r, _ => rfl
theorem rrL_eq {bs : List Int} (hB : Bytes bs) (h8 : 8 ≤ bs.length) : rrL bs = bs ↔ w16 bs 4 = rrI bs := by
  have hn : nmL (nb bs 0) (rrI bs) (rdS bs) (rdU bs) = put16 (rrI bs) ++ [nb bs 6, nb bs 7] := by
    unfold nmL rdS rdU
    cases he : ech (nb bs 0) with
    | true => simp only [if_true]; rw [put16_w hB 6]
    | false => simp only [Bool.false_eq_true, if_false]; rw [put16_w hB 6]
  have e : rrL bs = [nb bs 0, nb bs 1] ++ ([nb bs 2, nb bs 3] ++ ((put16 (rrI bs) ++ [nb bs 6, nb bs 7]) ++ bs.drop 8)) := by
    unfold rrL ldB rsL
    rw [put16_w hB 2, hn]
  have e2 := put16_w hB 4
  have b4 := w16_bd hB 4
  have bi : 0 ≤ rrI bs ∧ rrI bs ≤ 65535 := by unfold rrI; split; exact b4; omega
  constructor
  · intro h
    rw [e] at h
    have h2 := h.trans (first8 h8)
    simp only [List.cons_append, List.nil_append, List.cons.injEq, true_and, put16] at h2
    show 256 * nb bs 4 + nb bs 5 = rrI bs
    omega
  · intro h
    rw [e, ← h, e2]
    exact (first8 h8).symm
theorem rr_may {bs : List Int} : (rdM bs).may = (rrO bs && decide (w16 bs 4 = rrI bs)) := by
  unfold rrO Ms.may rdM
  simp only
  by_cases he : ech (nb bs 0) = true
  · unfold rrI
    rw [if_pos he]
    simp
  · have e0 : rrI bs = 0 := by unfold rrI; rw [if_neg he]
    rw [e0]
    by_cases h4 : w16 bs 4 = 0
    · rw [h4]; simp
    · rw [decide_eq_false h4, Bool.and_false]
      cases hm : mbI (nb bs 0) (nb bs 1) (w16 bs 4) (rdS bs) (rdU bs) with
      | false => rfl
      | true => exact absurd ((mbI_true hm).2.2.2.2.2.2 (by simpa using he)).1 h4
theorem exec_bldC3 {o : Oper} {w : World} {ev : Operand → Value} (x1 x2 x4 : Operand) (a b : Int) (ad : Option Addr) (n k : Nat) (ho : o.op = .build 24 #[(0, x1), (1, x2), (5, x4)]) (h1 : ev x1 = .int .i64 a) (h2 : ev x2 = .int .i64 b) (h4 : ev x4 = .slice ad n k) :
    (execOp ev o).run Try.prog w = .ok (.value (.agg (imL a b 0 0 0 (.slice ad n k)).toArray)) w := by
  unfold execOp
  rw [ho]
  simp only [List.map_toArray, List.map_cons, List.map_nil, h1, h2, h4]
  kernel_rfl
/-- a field of a message is laid anew -/
theorem imL_set {W : World} {q : Nat} {t c i s u : Int} {dv : Value} (h : CellsAt W q 0 (imL t c i s u dv)) (x : Int) :
    CellsAt (W.setCell ⟨q, 2, none⟩ (.int .i64 x)) q 0 (imL t c x s u dv) ∧ CellsAt (W.setCell ⟨q, 3, none⟩ (.int .i64 x)) q 0 (imL t c i x u dv) ∧ CellsAt (W.setCell ⟨q, 4, none⟩ (.int .i64 x)) q 0 (imL t c i s x dv) := by
  obtain ⟨x0, x1, x2, x3, x4, x5⟩ := imL_cells h
  refine ⟨?_, ?_, ?_⟩
  · intro j v hv
    rw [Nat.zero_add]
    rcases j with _ | _ | _ | _ | _ | _ | j
    · rw [setCell_out (by decide)]; cases hv; exact x0
    · rw [setCell_out (by decide)]; cases hv; exact x1
    · cases hv; exact World.cell?_setCell_same _ _ _ x2
    · rw [setCell_out (by decide)]; cases hv; exact x3
    · rw [setCell_out (by decide)]; cases hv; exact x4
    · rw [setCell_out (by decide)]; cases hv; exact x5
    · cases hv
  · intro j v hv
    rw [Nat.zero_add]
    rcases j with _ | _ | _ | _ | _ | _ | j
    · rw [setCell_out (by decide)]; cases hv; exact x0
    · rw [setCell_out (by decide)]; cases hv; exact x1
    · rw [setCell_out (by decide)]; cases hv; exact x2
    · cases hv; exact World.cell?_setCell_same _ _ _ x3
    · rw [setCell_out (by decide)]; cases hv; exact x4
    · rw [setCell_out (by decide)]; cases hv; exact x5
    · cases hv
  · intro j v hv
    rw [Nat.zero_add]
    rcases j with _ | _ | _ | _ | _ | _ | j
    · rw [setCell_out (by decide)]; cases hv; exact x0
    · rw [setCell_out (by decide)]; cases hv; exact x1
    · rw [setCell_out (by decide)]; cases hv; exact x2
    · rw [setCell_out (by decide)]; cases hv; exact x3
    · cases hv; exact World.cell?_setCell_same _ _ _ x4
    · rw [setCell_out (by decide)]; cases hv; exact x5
    · cases hv
end Go.Proofs.Ytlhkdjockodneaa
