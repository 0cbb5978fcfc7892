
/-
  Package arp: the contract of Decode.
-/
import Derived.Test.YtjaodjlgnclkhaaA39
namespace Go.Proofs.Ytjaodjlgnclkhaa
open Go.RowKit Go.Shelf

def hOk (bs : List Int) (ans : Bool) : Bool := eqH (hwV bs) (hdH ans)
def deA (bs : List Int) : Ar := ⟨hOk bs true, macAt bs 8, ipAt bs 14, macAt bs 18, ipAt bs 24⟩
def zA : Ar := ⟨false, zM, zI, zM, zI⟩
def deE (bs : List Int) : Int := if bs.length < 28 then 3 else if hOk bs (hOk bs true) = true ∧ ¬ nb bs 8 % 2 = 1 then 0 else 4
def deR (bs : List Int) : Ar := if deE bs = 0 then deA bs else zA
def DeEnd (w : World) (bs : List Int) (e : Ending) (w' : World) : Prop := e = .returned (.tuple #[(deR bs).val, .int .i64 (deE bs)]) ∧ Below w.heap.size w w'
theorem DeEnd.no {w w' : World} {bs : List Int} {k : Int} (hk : k ≠ 0) (h : deE bs = k) (hb : Below w.heap.size w w') : DeEnd w bs (.returned (.tuple #[zA.val, .int .i64 k])) w' := by
  refine ⟨?_, hb⟩
  unfold deR
  rw [h, if_neg hk]

theorem results_2 {fn : Func} {p a : Tmp} {T : TypeId} (h : fn.results = #[.cell p T, .tmp a]) (tmps : Array Value) (w : World) (s : Nat) (v va : Value) (hp : tmps.getD p undef = .pointer (some ⟨s, 0, none⟩)) (ha : tmps.getD a undef = va) (hL : (loadVar T ⟨s, 0, none⟩).run Try.prog w = .ok v w) : (results fn tmps).run Try.prog w = .ok (.tuple #[v, va]) w := by
  have hp' : (asAddr (tmps.getD p undef)).run Try.prog w = .ok ⟨s, 0, none⟩ w := by rw [hp]; rfl
  have hp2 : (asAddr (tmps[p]?.getD undef)).run Try.prog w = .ok ⟨s, 0, none⟩ w := by simpa using hp'
  have ha' : tmps[a]?.getD undef = va := by simpa using ha
  simp only [results, h]
  simp [Sem.run_bind, Result.andThen, hp2, hL, ha']
theorem cells_copy {A : Nat → Prop} {w : World} {a : Option Addr} {n cap : Nat} {bs : List Int} (h : IsF A w (.slice a n cap) bs) {s o k : Nat} {old new : List Value} (hk0 : 0 < k) (hk : k ≤ bs.length) (hn : new = (bs.take k).map (Value.int .u8)) (ho : CellsAt w s o old) (hl : old.length = k) (hf : ∀ y, w.frozen? ⟨s, y, none⟩ = false) :
    (Builtin.copy_ #[28, 28] 3 #[.slice (some ⟨s, o, none⟩) k k, .slice a n cap]).run Try.prog w = .ok (.int .i64 (k : Int)) (w.setCells s o new) := by
  obtain ⟨a', cap', e, hlc, hnn, hc⟩ := h
  simp only [Value.slice.injEq] at e
  obtain ⟨rfl, rfl, rfl⟩ := e
  obtain ⟨b, q, rfl, _, _, hcs⟩ := hc (by omega)
  have hm : Nat.min bs.length k = k := Nat.min_eq_right hk
  have hlen : new.length = k := by rw [hn]; simp; omega
  have := run_copy_cells (P := Try.prog) w 28 28 3 5 s o k k ⟨b, q, none⟩ bs.length cap new Try.underlying28 size_u8 (by rw [hm, hlen])
    (fun j v hv => by
      have hj : j < k := by have := (List.getElem?_eq_some_iff.1 hv).1; omega
      rw [Addr.add_lit, hcs j (by omega), ← hv, hn]
      simp [hj, show j < bs.length by omega]) (fun j hj => by rw [ho j _ (List.getElem?_eq_getElem (by omega))]; rfl) (fun j _ => hf _) (by rw [hn]; exact ints_one _)
  rw [this, hlen]
  rfl
theorem exec_copy {o : Oper} {w : World} {ev : Operand → Value} (d s : Operand) (t t' : TypeId) (ho : o.op = .call { callee := .builtin .copy, args := #[d, s], argTypes := #[t, t'] }) (v u : Value) (hd : ev d = v) (hs : ev s = u) {v' : Value} {w' : World}
    (ty : TypeId) (hty : o.type = ty) (hr : (Builtin.copy_ #[t, t'] ty #[v, u]).run Try.prog w = .ok v' w') : (execOp ev o).run Try.prog w = .ok (.value v') w' := by
  subst hty
  unfold execOp
  simp only [ho, resolve, invoke, builtin, Sem.run_bind, Sem.run_pure, Result.andThen_ok, List.map_toArray, List.map_cons, List.map_nil, hd, hs, hr]
theorem exec_slM {o : Oper} {w : World} {ev : Operand → Value} (x : Operand) (b p : Nat) (ho : o.op = .slice 23 x none none none) (hx : ev x = .pointer (some ⟨b, p, none⟩)) : (execOp ev o).run Try.prog w = .ok (.value (.slice (some ⟨b, p, none⟩) 6 6)) w := by
  unfold execOp
  simp [ho, hx, go_sem]
theorem exec_slI {o : Oper} {w : World} {ev : Operand → Value} (x : Operand) (b p : Nat) (ho : o.op = .slice 25 x none none none) (hx : ev x = .pointer (some ⟨b, p, none⟩)) : (execOp ev o).run Try.prog w = .ok (.value (.slice (some ⟨b, p, none⟩) 4 4)) w := by
  unfold execOp
  simp [ho, hx, go_sem]
theorem exec_slB {o : Oper} {w : World} {ev : Operand → Value} (x y : Operand) (b off n c k : Nat) (ho : o.op = .slice 28 x (some y) none none) (hx : ev x = .slice (some ⟨b, off, none⟩) n c) (hy : ev y = .int .i64 (k : Int)) (hk : k < n) (hc : n ≤ c) : (execOp ev o).run Try.prog w = .ok (.value (.slice (some ⟨b, off + k, none⟩) (n - k) (c - k))) w := by
  have h1 : (k : Int) ≤ n := by omega
  have h2 : ¬ c = k := by omega
  unfold execOp
  simp [ho, hx, hy, go_sem, h1, h2]
end Go.Proofs.Ytjaodjlgnclkhaa
