
/-
  IcmpQuoteBack: what is quoted of a packet, and read out of it.
-/
import Derived.Test.YtlhkdjockodneaaT25
namespace Go.Proofs.Ytlhkdjockodneaa
open Go.RowKit Go.Shelf

/-- the first eight bytes behind the head -/
def e8 (sp dp n : Int) : List Int := [sp.tdiv 256 % 256, sp % 256, dp.tdiv 256 % 256, dp % 256, n / 16777216, n / 65536 % 256, n / 256 % 256, n % 256]
theorem e8_bytes (sp dp n : Int) (h0 : 0 ≤ n) (h1 : n ≤ 4294967295) : Bytes (e8 sp dp n) := by
  intro x hx
  simp only [e8, List.mem_cons, List.not_mem_nil, or_false] at hx
  rcases hx with rfl | rfl | rfl | rfl | rfl | rfl | rfl | rfl <;> omega
theorem e8_sp {sp dp n : Int} (h0 : 0 ≤ sp) (h1 : sp ≤ 65535) : w16 (e8 sp dp n) 0 = sp := by
  show 256 * (sp.tdiv 256 % 256) + sp % 256 = sp
  rw [Int.tdiv_eq_ediv_of_nonneg h0]
  omega
theorem e8_dp {sp dp n : Int} (h0 : 0 ≤ dp) (h1 : dp ≤ 65535) : w16 (e8 sp dp n) 2 = dp := by
  show 256 * (dp.tdiv 256 % 256) + dp % 256 = dp
  rw [Int.tdiv_eq_ediv_of_nonneg h0]
  omega
theorem e8_n {sp dp n : Int} : w32 (e8 sp dp n) 4 = n ∧ w16 (e8 sp dp n) 4 = n / 65536 := by
  constructor
  · show 16777216 * (n / 16777216) + 65536 * (n / 65536 % 256) + 256 * (n / 256 % 256) + n % 256 = n
    omega
  · show 256 * (n / 16777216) + n / 65536 % 256 = n / 65536
    omega
theorem nb_left {X Y : List Int} {k : Nat} (h : k < X.length) : nb (X ++ Y) k = nb X k := by
  unfold nb
  rw [List.getElem?_append_left h]
theorem hdB_at (p : Pk) (sz : Int) : nb (hdB p sz) 0 = 64 + (20 + (p.opts.length : Int)) / 4 ∧ nb (hdB p sz) 9 = p.proto ∧ ipA (hdB p sz) 12 = p.src ∧ ipA (hdB p sz) 16 = p.dst := ⟨rfl, rfl, rfl, rfl⟩
/-- what is quoted -/
theorem quoted_of {p : Pk} {b E : List Int} (hE : E.length = 8) (he : enE p (E ++ b).length = 0) :
    p.opts.length ≤ 40 ∧ qtL (enB p (E ++ b)) = hdB p (20 + (p.opts.length : Int) + ((E ++ b).length : Int)) ++ E ∧ (qtL (enB p (E ++ b))).length = 28 + p.opts.length ∧ hsI (qtL (enB p (E ++ b))) = ((20 + p.opts.length : Nat) : Int) := by
  have ho : p.opts.length ≤ 40 ∧ p.opts.length % 4 = 0 := by
    unfold enE at he
    split at he
    · cases he
    · split at he
      · cases he
      · rename_i h2
        have h2 : opB p = true := by simpa using h2
        simp only [opB, Bool.and_eq_true, decide_eq_true_eq] at h2
        exact ⟨h2.1, h2.2.1⟩
  obtain ⟨o1, o2⟩ := ho
  obtain ⟨sz, hsz⟩ : ∃ sz, sz = 20 + (p.opts.length : Int) + ((E ++ b).length : Int) := ⟨_, rfl⟩
  have e1 : enB p (E ++ b) = (hdB p sz ++ E) ++ b := by rw [enB_split, ← hsz, List.append_assoc]
  have l1 : (hdB p sz ++ E).length = 28 + p.opts.length := by rw [List.length_append, hdB_len, hE]; omega
  have h0 : hsI (enB p (E ++ b)) = ((20 + p.opts.length : Nat) : Int) := by
    unfold hsI
    rw [e1, nb_left (by rw [l1]; omega), nb_left (by rw [hdB_len]; omega), (hdB_at p sz).1]
    omega
  have hN : qtN (enB p (E ++ b)) = 28 + p.opts.length := by
    unfold qtN
    rw [h0, e1, List.length_append, l1]
    omega
  have hq : qtL (enB p (E ++ b)) = hdB p sz ++ E := by
    unfold qtL
    rw [hN, e1, ← l1]
    exact List.take_left
  refine ⟨o1, by rw [hq, hsz], by rw [hq, l1], ?_⟩
  rw [hq]
  unfold hsI at h0 ⊢
  rw [e1, nb_left (by rw [l1]; omega)] at h0
  exact h0
theorem quote_read {p : Pk} {b : List Int} {sp dp n : Int} (he : enE p (e8 sp dp n ++ b).length = 0) (hs0 : 0 ≤ sp) (hs1 : sp ≤ 65535) (hd0 : 0 ≤ dp) (hd1 : dp ≤ 65535) :
    quE (qtL (enB p (e8 sp dp n ++ b))) = 0 ∧ quQ (qtL (enB p (e8 sp dp n ++ b))) = ⟨p.src, p.dst, p.proto, if p.proto = 6 ∨ p.proto = 17 then sp else if p.proto = 1 then n / 65536 else 0, if p.proto = 6 ∨ p.proto = 17 then dp else 0, if p.proto = 6 then n else 0⟩ := by
  obtain ⟨o1, e1, e2, e3⟩ := quoted_of (p := p) (b := b) (E := e8 sp dp n) rfl he
  obtain ⟨q, hq⟩ : ∃ q, q = qtL (enB p (e8 sp dp n ++ b)) := ⟨_, rfl⟩
  rw [← hq] at e1 e2 e3 ⊢
  obtain ⟨sz, hsz⟩ : ∃ sz, sz = 20 + (p.opts.length : Int) + ((e8 sp dp n ++ b).length : Int) := ⟨_, rfl⟩
  rw [← hsz] at e1
  have hl : (hdB p sz).length = 20 + p.opts.length := hdB_len p sz
  obtain ⟨a0, a9, a12, a16⟩ := hdB_at p sz
  have n0 : nb q 0 = 64 + (20 + (p.opts.length : Int)) / 4 := by rw [e1, nb_left (by omega), a0]
  have n9 : nb q 9 = p.proto := by rw [e1, nb_left (by omega), a9]
  have i12 : ipA q 12 = p.src := by
    rw [← a12, e1]
    unfold ipA
    rw [nb_left (by omega), nb_left (by omega), nb_left (by omega), nb_left (by omega)]
  have i16 : ipA q 16 = p.dst := by
    rw [← a16, e1]
    unfold ipA
    rw [nb_left (by omega), nb_left (by omega), nb_left (by omega), nb_left (by omega)]
  have dr : q.drop (20 + p.opts.length) = e8 sp dp n := by rw [e1, ← hl]; exact List.drop_left
  constructor
  · unfold quE
    rw [if_neg (by omega), e3, n0, if_neg (by omega), if_neg (by omega)]
  · unfold quQ
    rw [i12, i16, n9, e3, Int.toNat_natCast, dr]
    unfold pt
    rw [e8_sp hs0 hs1, e8_dp hd0 hd1, e8_n.1, e8_n.2]
theorem lit_G (w : World) (bs : List Int) (h : bs.length ≤ 1000) : Gro w.heap.size (w.alloc (.cells (bs.map (Value.int .u8)).toArray 5)) (.slice (some ⟨w.heap.size, 0, none⟩) bs.length bs.length) bs :=
  ⟨by simp, .inr ⟨w.heap.size, bs.length, _, rfl, Nat.le_refl _, heap_alloc_new w _, Nat.le_refl _, Nat.le_trans h (by decide), by simp, by rw [Nat.mul_one]; exact List.take_of_length_le (by simp)⟩⟩
end Go.Proofs.Ytlhkdjockodneaa
