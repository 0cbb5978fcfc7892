
/-
  Package icmp: what is quoted; the document's.
-/
import Derived.Test.YtlhkdjockodneaaT11
namespace Go.Proofs.Ytlhkdjockodneaa
open Go.RowKit Go.Shelf

theorem hsI_bd {bs : List Int} (hB : Bytes bs) : 0 ≤ hsI bs ∧ hsI bs ≤ 60 := by
  have := nb_bd hB 0
  unfold hsI
  omega
theorem cell_nb {W : World} {g off n cap : Nat} {bs : List Int} (h : IsB W.heap.size W (.slice (some ⟨g, off, none⟩) n cap) bs) {j : Nat} (hj : j < bs.length) : W.cell? ⟨g, off + j, none⟩ = some (.int .u8 (nb bs j)) := by
  obtain ⟨a, c, e, _, _, hc⟩ := h
  simp only [Value.slice.injEq] at e
  obtain ⟨rfl, _, rfl⟩ := e
  obtain ⟨b', off', e, _, hcs⟩ := hc (by omega)
  cases e
  exact hcs j hj
theorem some_of {W : World} {v : Value} {bs : List Int} (h : IsB W.heap.size W v bs) (h0 : 0 < bs.length) : ∃ g off cap, v = .slice (some ⟨g, off, none⟩) bs.length cap ∧ bs.length ≤ cap ∧ g < W.heap.size := by
  obtain ⟨a, cap, rfl, hl, _, hc⟩ := h
  obtain ⟨g, off, rfl, hg, _⟩ := hc h0
  exact ⟨g, off, cap, rfl, hl, hg⟩
set_option maxRecDepth 100000 in
theorem icHead_any (g off cap : Nat) (bs : List Int) (w : World) (hb : IsB w.heap.size w (.slice (some ⟨g, off, none⟩) bs.length cap) bs) (hB : Bytes bs) (h0 : 0 < bs.length) :
    Calls Try.prog 40 #[.slice (some ⟨g, off, none⟩) bs.length cap] w fun e w' => e = .returned (.int .i64 (hsI bs)) ∧ w' = w := by
  have c0 := cell_nb hb h0
  obtain ⟨x0, x1⟩ := nb_bd hB 0
  obtain ⟨x, hx⟩ : ∃ x, x = nb bs 0 := ⟨_, rfl⟩
  unfold hsI
  rw [← hx] at c0 x0 x1 ⊢
  have a1 := u8_and15 x x0 x1
  obtain ⟨n, hn⟩ : ∃ n, n = bs.length := ⟨_, rfl⟩
  rw [← hn] at h0 ⊢
  have nz : (0 : Int) < (n : Int) := by omega
  have m0 : 0 ≤ x % 16 ∧ x % 16 ≤ 15 := by omega
  obtain ⟨y, hy⟩ : ∃ y, y = x % 16 := ⟨_, rfl⟩
  rw [← hy] at a1 m0 ⊢
  obtain ⟨m1, m2⟩ := m0
  simp only [Nat.add_zero] at c0
  clear hb hB hx hn hy
  go_enter Try.func40, Try.ntmps40
  go_wp2
  go_ret
  exact ⟨rfl, rfl⟩
/-- how much is quoted -/
def qtN (bs : List Int) : Nat := min ((max (hsI bs) 20 + 8).toNat) bs.length
def qtL (bs : List Int) : List Int := bs.take (qtN bs)
set_option maxRecDepth 100000 in
set_option maxHeartbeats 2000000 in
theorem icQuoting_any (v : Value) (bs : List Int) (w : World) (hb : IsB w.heap.size w v bs) (hB : Bytes bs) (hl : bs.length ≤ 140737488355328) :
    Calls Try.prog 15 #[v] w fun e w' => ∃ u, e = .returned u ∧ Gro w.heap.size w' u (qtL bs) ∧ Below w.heap.size w w' := by
  by_cases h0 : 0 < bs.length
  · obtain ⟨g, off, cap, rfl, hcap, _⟩ := some_of hb h0
    have HC := hide (icHead_any g off cap bs w hb hB h0)
    obtain ⟨p1, p2⟩ := hsI_bd hB
    obtain ⟨h, hh⟩ : ∃ h, h = hsI bs := ⟨_, rfl⟩
    rw [← hh] at HC p1 p2
    obtain ⟨q, hq⟩ : ∃ q, q = qtN bs := ⟨_, rfl⟩
    have HQ : Hid (q = min ((max h 20 + 8).toNat) bs.length) := by rw [hq, qtN, hh]; exact rfl
    have qle : q ≤ bs.length := by rw [HQ.out]; omega
    have CL := hide (Clone_any (.slice (some ⟨g, off, none⟩) q cap) (bs.take q) w (by have k := hb.take q qle; exact k) (by rw [List.length_take]; omega) (fun a n c e => by simp only [Value.slice.injEq] at e; rw [← e.1]; simp))
    obtain ⟨n, hn⟩ : ∃ n, n = bs.length := ⟨_, rfl⟩
    rw [← hn] at HC HQ qle hcap h0 hl ⊢
    obtain ⟨x, hx⟩ : ∃ x, x = max h 20 := ⟨_, rfl⟩
    have e1 : (if h < 20 then 20 else h) = x := by rw [hx]; split <;> omega
    have x1 : 20 ≤ x ∧ x ≤ 60 := by omega
    obtain ⟨x1, x2⟩ := x1
    have e2 : (if (n : Int) < x + 8 then (n : Int) else x + 8) = (q : Int) := by rw [HQ.out, ← hx]; split <;> omega
    have z0 : ((n : Int) == 0) = false := by simp; omega
    have z1 : (q : Int) ≤ (cap : Int) := by omega
    have EQ : Hid (qtL bs = bs.take q) := by unfold Hid qtL; rw [hq]
    have z2 : q ≤ cap := by omega
    clear hb hB hh hq hn hx HQ
    go_enter Try.func15, Try.ntmps15
    go_wp2_with fail
    refine HC.out.mono ?_
    rintro _ wz ⟨rfl, hz⟩
    rw [hz]
    clear hz
    go_wp2_with fail
    refine CL.out.mono ?_
    rintro _ w2 ⟨u, rfl, g2, b2⟩
    have G2 := hide g2
    have B2 := hide b2
    clear g2 b2 CL
    go_wp2
    go_ret
    exact ⟨_, rfl, by rw [EQ.out]; exact G2.out, B2.out⟩
  · have e : bs = [] := List.eq_nil_of_length_eq_zero (by omega)
    subst e
    obtain ⟨a, cap, rfl, _⟩ := hb.shape
    rw [show ([] : List Int).length = 0 from rfl]
    clear hb hB hl h0
    go_enter Try.func15, Try.ntmps15
    go_wp2
    go_ret
    exact ⟨_, rfl, Gro.nil _ _, Below.refl _ _⟩
set_option maxRecDepth 100000 in
set_option maxHeartbeats 2000000 in
theorem rQuoting_any (v : Value) (bs : List Int) (w : World) (hb : IsB w.heap.size w v bs) (hB : Bytes bs) (hl : bs.length ≤ 140737488355328) :
    Calls Try.prog 16 #[v] w fun e w' => ∃ u, e = .returned u ∧ IsB w'.heap.size w' u (qtL bs) ∧ w' = w := by
  by_cases h0 : 0 < bs.length
  · obtain ⟨g, off, cap, rfl, hcap, _⟩ := some_of hb h0
    have c0 := cell_nb hb h0
    obtain ⟨x0, x1⟩ := nb_bd hB 0
    obtain ⟨x, hx⟩ : ∃ x, x = nb bs 0 := ⟨_, rfl⟩
    rw [← hx] at c0 x0 x1
    obtain ⟨h, hh⟩ : ∃ h, h = x % 16 * 4 := ⟨_, rfl⟩
    have eh : h = hsI bs := by rw [hh, hx, hsI]
    obtain ⟨q, hq⟩ : ∃ q, q = qtN bs := ⟨_, rfl⟩
    have HQ : Hid (q = min ((max h 20 + 8).toNat) bs.length) := by rw [hq, qtN, eh]; exact rfl
    have qle : q ≤ bs.length := by rw [HQ.out]; omega
    have TK : Hid (IsB w.heap.size w (.slice (some ⟨g, off, none⟩) q cap) (qtL bs)) := by
      have k := hb.take q qle
      unfold Hid qtL
      rw [← hq]
      exact k
    obtain ⟨n, hn⟩ : ∃ n, n = bs.length := ⟨_, rfl⟩
    rw [← hn] at HQ qle hcap h0 hl ⊢
    have z0 : ((n : Int) == 0) = false := by simp; omega
    have nz : (0 : Int) < (n : Int) := by omega
    have z1 : (q : Int) ≤ (cap : Int) := by omega
    have z2 : q ≤ cap := by omega
    have hb1 : 0 ≤ h ∧ h ≤ 60 := by omega
    obtain ⟨hb1, hb2⟩ := hb1
    obtain ⟨r, hr⟩ : ∃ r, r = x % 16 := ⟨_, rfl⟩
    have r1 : 0 ≤ r ∧ r ≤ 15 := by omega
    obtain ⟨r1, r2⟩ := r1
    have er : x % 16 = r := hr.symm
    have ehr : r * 4 = h := by rw [hr, hh]
    simp only [Nat.add_zero] at c0
    clear hb hB hx hh eh hq hn hr
    by_cases h20 : h < 20
    · have e20 : Hid (q = min 28 n) := by rw [HQ.out]; unfold Hid; omega
      by_cases hn28 : (n : Int) < 28
      · have eq : Hid (q = n) := by rw [e20.out]; unfold Hid; omega
        have TK2 : Hid (IsB w.heap.size w (.slice (some ⟨g, off, none⟩) n cap) (qtL bs)) := by have k := TK.out; rw [eq.out] at k; exact k
        have zc : (n : Int) ≤ (cap : Int) := by omega
        have zc2 : n ≤ cap := by omega
        clear TK HQ e20 eq z1 z2 qle
        go_enter Try.func16, Try.ntmps16
        go_wp2
        go_ret
        exact ⟨_, rfl, TK2.out, rfl⟩
      · have eq : Hid (q = 28) := by rw [e20.out]; unfold Hid; omega
        have TK2 : Hid (IsB w.heap.size w (.slice (some ⟨g, off, none⟩) 28 cap) (qtL bs)) := by have k := TK.out; rw [eq.out] at k; exact k
        have zc : (28 : Int) ≤ (cap : Int) := by omega
        have zc2 : 28 ≤ cap := by omega
        clear TK HQ e20 eq z1 z2 qle
        go_enter Try.func16, Try.ntmps16
        go_wp2
        go_ret
        exact ⟨_, rfl, TK2.out, rfl⟩
    · by_cases hn8 : (n : Int) < h + 8
      · have eq : Hid (q = n) := by rw [HQ.out]; unfold Hid; omega
        have TK2 : Hid (IsB w.heap.size w (.slice (some ⟨g, off, none⟩) n cap) (qtL bs)) := by have k := TK.out; rw [eq.out] at k; exact k
        have zc : (n : Int) ≤ (cap : Int) := by omega
        have zc2 : n ≤ cap := by omega
        clear TK HQ eq z1 z2 qle
        go_enter Try.func16, Try.ntmps16
        go_wp2
        go_ret
        exact ⟨_, rfl, TK2.out, rfl⟩
      · have eq : (q : Int) = h + 8 := by rw [HQ.out]; omega
        have eq' : h + 8 = (q : Int) := eq.symm
        clear HQ eq
        go_enter Try.func16, Try.ntmps16
        go_wp2
        go_ret
        exact ⟨_, rfl, TK.out, rfl⟩
  · have e : bs = [] := List.eq_nil_of_length_eq_zero (by omega)
    subst e
    obtain ⟨a, cap, rfl, _⟩ := hb.shape
    rw [show ([] : List Int).length = 0 from rfl]
    clear hb hB hl h0
    go_enter Try.func16, Try.ntmps16
    go_wp2
    go_ret
    exact ⟨_, rfl, IsB.nil _ _, rfl⟩
end Go.Proofs.Ytlhkdjockodneaa
