
/-
  Package ip4: the contracts of sizes, of bytes.Clone.
-/
import Derived.Test.YtgempelfamjabaaI9
namespace Go.Proofs.Ytgempelfamjabaa
open Go.RowKit Go.Shelf

/-- a byte, a word -/
def nb (bs : List Int) (k : Nat) : Int := bs[k]?.getD 0
def w16 (bs : List Int) (k : Nat) : Int := 256 * nb bs k + nb bs (k + 1)
theorem rd16_at {bs : List Int} {k : Nat} (h : k + 2 ≤ bs.length) : rd16 bs (k : Int) = w16 bs k := by
  unfold rd16
  rw [if_pos (by simp [stB]; omega), Int.toNat_natCast]
  rfl
theorem nb_bd {bs : List Int} (h : Bytes bs) (k : Nat) : 0 ≤ nb bs k ∧ nb bs k ≤ 255 := h.getD k
theorem w16_bd {bs : List Int} (h : Bytes bs) (k : Nat) : 0 ≤ w16 bs k ∧ w16 bs k ≤ 65535 := by
  have h1 := nb_bd h k
  have h2 := nb_bd h (k + 1)
  unfold w16
  omega
/-- the head's length, the whole one -/
def hsI (bs : List Int) : Int := nb bs 0 % 16 * 4
def szI (bs : List Int) : Int := w16 bs 2
section
variable {o : Oper} {w : World} {ev : Operand → Value}
theorem exec_and15 (x : Operand) (t : TypeId) (n : Int) (ho : o.op = .binOp .and 5 x (.const (.int .u8 15)) t) (hc : ∀ v, ev (.const v) = v) (hx : ev x = .int .u8 n) (h0 : 0 ≤ n) (h1 : n ≤ 255) : (execOp ev o).run Try.prog w = .ok (.value (.int .u8 (n % 16))) w := by
  have e := u8_and15 n h0 h1
  unfold execOp
  simp [ho, hx, hc, go_sem, e]
theorem exec_cvti (x : Operand) (n : Int) (ho : o.op = .convert 5 3 x) (hx : ev x = .int .u8 n) (h0 : 0 ≤ n) (h1 : n ≤ 255) : (execOp ev o).run Try.prog w = .ok (.value (.int .i64 n)) w := by
  have e : IntKind.i64.wrap n = n := wrapI n (by omega) (by omega)
  unfold execOp
  simp [ho, hx, go_sem, e]
theorem exec_mulc (x : Operand) (t : TypeId) (c n : Int) (ho : o.op = .binOp .mul 3 x (.const (.int .i64 c)) t) (hc : ∀ v, ev (.const v) = v) (hx : ev x = .int .i64 n) (h0 : -9223372036854775808 ≤ n * c) (h1 : n * c ≤ 9223372036854775807) : (execOp ev o).run Try.prog w = .ok (.value (.int .i64 (n * c))) w := by
  have e : IntKind.i64.wrap (n * c) = n * c := wrapI _ h0 h1
  unfold execOp
  simp [ho, hx, hc, go_sem, e]
theorem exec_ixC (x : Operand) (c : Int) (g off n cap k : Nat) (hk : (k : Int) = c) (ho : o.op = .indexAddr 24 x (.const (.int .i64 c))) (hc : ∀ v, ev (.const v) = v) (hx : ev x = .slice (some ⟨g, off, none⟩) n cap) (hl : k < n) : (execOp ev o).run Try.prog w = .ok (.value (.pointer (some ⟨g, off + k, none⟩))) w := by
  subst hk
  exact exec_ixU x _ g off n cap k ho hx (hc _) hl
end
set_option maxHeartbeats 1000000 in
/-- a copy in memory of one's own -/
theorem Clone_any (v : Value) (bs : List Int) (w : World) (hb : IsB w.heap.size w v bs) (hl : bs.length ≤ 140737488355328) (hv : ∀ a n c, v = .slice a n c → a ≠ none) :
    Calls Try.prog 32 #[v] w fun e w' => ∃ u, e = .returned u ∧ Gro w.heap.size w' u bs ∧ Below w.heap.size w w' := by
  have q22 : ∀ (w : World) (a : Option Addr) (n c n' c' : Nat), (binOp .eql 24 (.slice a n c) (.slice none n' c')).run Try.prog w = .ok (.bool a.isNone) w := fun w a n c n' c' => Lib.run_eql_slice_nil w _ _ a n c n' c' Try.underlying24
  obtain ⟨a, c, rfl, _⟩ := hb.shape
  obtain ⟨ad, rfl⟩ : ∃ ad, a = some ad := Option.ne_none_iff_exists'.1 (hv _ _ _ rfl)
  obtain ⟨n, hn⟩ : ∃ n, n = bs.length := ⟨_, rfl⟩
  rw [← hn] at hb hl ⊢
  obtain ⟨wn, hwn⟩ : ∃ wn, w.alloc (.cells #[] 5) = wn := ⟨_, rfl⟩
  have bn : Below w.heap.size w wn := by rw [← hwn]; exact later_alloc _ _
  have gn : Gro w.heap.size wn (.slice (some ⟨w.heap.size, 0, none⟩) 0 0) [] := by
    refine ⟨rfl, .inr ⟨w.heap.size, 0, #[], rfl, Nat.le_refl _, ?_, Nat.le_refl _, Nat.zero_le _, rfl, rfl⟩⟩
    rw [← hwn]
    exact heap_alloc_new w _
  have HG := hide gn
  have HBn := hide bn
  have HB := hide (hb.later bn)
  have HN := hide hn
  clear hb hn gn bn
  rw [← hwn] at HG HBn HB
  clear hwn wn hv
  go_enter Try.func32, Try.ntmps32
  go_wp2_with (at_builtin; refine wpList_growB rfl _ _ rfl rfl w.heap.size _ _ [] bs rfl rfl HG.out HB.out HBn.out.size (by rw [← HN.out]; simp; omega) bs (List.nil_append _) ?_)
  intro a4 c4 w4 hc4 g4 b4
  have G4 := hide g4
  have B4 := hide (HBn.out.trans b4)
  clear g4 b4 hc4
  go_wp2
  go_ret
  exact ⟨_, rfl, G4.out, B4.out⟩
end Go.Proofs.Ytgempelfamjabaa
