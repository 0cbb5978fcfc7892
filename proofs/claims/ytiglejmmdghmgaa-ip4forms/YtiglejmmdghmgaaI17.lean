
/-
  Ip4Sums: the walk.
-/
import Derived.Test.YtiglejmmdghmgaaI16
namespace Go.Proofs.Ytiglejmmdghmgaa
open Go.RowKit Go.Shelf

/-- a packet that came in -/
structure PkOk (p : Pk) : Prop where
  src : p.src.Ok
  dst : p.dst.Ok
  opts : Bytes p.opts
  len : p.opts.length ≤ 140737488351232
def hdB (p : Pk) (sz : Int) : List Int := ahd p sz ++ (put16 (csum (ahd p sz ++ bhd p)) ++ bhd p)
theorem hdB_len (p : Pk) (sz : Int) : (hdB p sz).length = 20 + p.opts.length := by
  simp only [hdB, List.length_append, ahd_len, put16_len, bhd_len]; omega
theorem enB_split (p : Pk) (b : List Int) : enB p b = hdB p (20 + (p.opts.length : Int) + (b.length : Int)) ++ b := by
  simp [enB, hdB, List.flatten_cons, List.append_assoc]
theorem enB_take (p : Pk) (b : List Int) : (enB p b).take (20 + p.opts.length) = hdB p (20 + (p.opts.length : Int) + (b.length : Int)) := by
  rw [enB_split, ← hdB_len p (20 + (p.opts.length : Int) + (b.length : Int)), List.take_left']
  rfl
theorem hdB_sum {p : Pk} (hA : ∀ sz, Bytes (ahd p sz)) (hB : Bytes (bhd p)) (sz : Int) : csum (hdB p sz) = 0 := by
  have h1 := whole_mod (ahd p sz ++ bhd p) ((hA sz).append hB)
  have h2 := csum_bd (ahd p sz ++ bhd p)
  have e : wsum (hdB p sz) = wsum (ahd p sz ++ bhd p) + csum (ahd p sz ++ bhd p) := by
    unfold hdB
    rw [wsum_append_even _ _ (by rw [ahd_len]), wsum_append_even _ _ (by rw [put16_len]), wsum_put16 _ h2.1 h2.2, wsum_append_even _ _ (by rw [ahd_len])]
    omega
  have h3 : foldI (wsum (hdB p sz)) = 65535 := by rw [e]; exact fold_whole _ h1.1 h1.2
  show 65535 - foldI (wsum (hdB p sz)) = 0
  omega
theorem hdB_bytes {p : Pk} (hA : ∀ sz, Bytes (ahd p sz)) (hB : Bytes (bhd p)) (sz : Int) : Bytes (hdB p sz) := (hA sz).append ((put16_bytes _).append hB)
theorem enE_zero {p : Pk} {n : Nat} (h : enE p n = 0) : mb p = true ∧ p.opts.length ≤ 40 ∧ p.opts.length % 4 = 0 ∧ okO p.opts = true ∧ 20 + p.opts.length + n ≤ 65535 := by
  unfold enE at h
  split at h
  · cases h
  split at h
  · cases h
  split at h
  · cases h
  rename_i h1 h2 h3
  have h4 : opB p = true := by simpa using h2
  simp only [opB, Bool.and_eq_true, decide_eq_true_eq] at h4
  exact ⟨by simpa using h1, h4.1, h4.2.1, h4.2.2, by omega⟩
theorem enB_get (p : Pk) (b : List Int) (k : Nat) (hk : k < 20 + p.opts.length) : nb (enB p b) k = nb (hdB p (20 + (p.opts.length : Int) + (b.length : Int))) k := by
  unfold nb
  rw [enB_split, List.getElem?_append_left (by rw [hdB_len]; exact hk)]
theorem enB_bytes {p : Pk} {b : List Int} (h : PkOk p) (he : enE p b.length = 0) (hb : Bytes b) : Bytes (enB p b) := by
  obtain ⟨h1, h2, _⟩ := enE_zero he
  rw [enB_split]
  exact (hdB_bytes (ahd_bytes h1 h2) (bhd_bytes h.src h.dst h.opts) _).append hb
theorem Gro.cells {B : Nat} {W : World} {v : Value} {bs : List Int} (h : Gro B W v bs) (h0 : 0 < bs.length) : ∃ g c, v = .slice (some ⟨g, 0, none⟩) bs.length c ∧ B ≤ g ∧ g < W.heap.size ∧ bs.length ≤ c ∧ (∀ j, j < bs.length → W.cell? ⟨g, j, none⟩ = some (.int .u8 (nb bs j))) ∧ ∀ j, W.frozen? ⟨g, j, none⟩ = false := by
  obtain ⟨a, c, rfl, hc⟩ := h.isB.shape
  obtain ⟨g, rfl, hg, hcs, hf⟩ := h.block h0
  exact ⟨g, c, rfl, hg, World.block_lt_of_cell? W _ (hcs 0 h0), hc, hcs, hf⟩
set_option maxRecDepth 100000 in
set_option maxHeartbeats 8000000 in
theorem Sums_walk (p : Pk) (ov bv : Value) (b : List Int) (w : World) (hov : IsB w.heap.size w ov p.opts) (hp : PkOk p) (hbv : IsB w.heap.size w bv b) (_hB : Bytes b) (lb : b.length ≤ 140737488351232) :
    Calls Try.prog 7 #[.agg (p.cells ov).toArray, bv] w fun e w' => e = .returned (.bool true) ∧ Below w.heap.size w w' := by
  obtain ⟨ao, co, rfl, _⟩ := hov.shape
  obtain ⟨ab, cb, rfl, _⟩ := hbv.shape
  obtain ⟨s, hs⟩ : ∃ s, s = w.heap.size := ⟨_, rfl⟩
  obtain ⟨X, hX⟩ : ∃ X, X = p.cells (.slice ao p.opts.length co) := ⟨_, rfl⟩
  have lX : X.length = 16 := by rw [hX]; rfl
  rw [← hX]
  obtain ⟨w1, hw1⟩ : ∃ w1, w1 = w.alloc (.cells X.toArray 26) := ⟨_, rfl⟩
  have b1 : Below w.heap.size w w1 := by rw [hw1]; exact later_alloc _ _
  have c1 : CellsAt w1 s 0 X := by rw [hw1, hs]; exact CellsAt.new w X 26
  have l1 : s < w1.heap.size := by rw [hw1, hs]; simp
  have HB1 := hide b1
  have C1 := hide c1
  have HX := hide hX
  have LX := hide lX
  have HOV := hide hov
  have HBV := hide hbv
  have HP := hide hp
  obtain ⟨n, hn⟩ : ∃ n, n = p.opts.length := ⟨_, rfl⟩
  obtain ⟨bl, hbl⟩ : ∃ bl, bl = b.length := ⟨_, rfl⟩
  rw [← hn] at HX HOV
  rw [← hbl] at HBV lb ⊢
  have HN := hide hn
  have HBL := hide hbl
  clear b1 c1 hX hov hbv hp hn hbl
  go_enter Try.func7, Try.ntmps7
  have hw1' := hw1.symm
  have hs' := hs.symm
  have HS := hide hs
  clear hw1 hs
  go_wp2_with fail
  clear hw1' hs' lX
  refine (awake_any w1).mono ?_
  rintro _ w2 ⟨rfl, b2⟩
  have HB2 : Hid (Below w.heap.size w w2) := HB1.out.trans (b2.mono HB1.out.size)
  have C2 := hide (C1.out.later l1 b2)
  have L2 : s < w2.heap.size := Nat.lt_of_lt_of_le l1 b2.size
  have EN := Encode_any p (.slice ao n co) (.slice ab bl cb) b w2 (HOV.out.later HB2.out) (HBV.out.later HB2.out) HP.out.src HP.out.dst HP.out.opts (by have := HP.out.len; omega) (by rw [← HBL.out]; omega)
  rw [← HX.out] at EN
  have HEN := hide EN
  clear b2 EN C1 HB1
  go_wp2_with (refine wpList_loadA rfl 26 16 aggP sizP _ rfl s 0 rfl X LX.out C2.out ?_)
  refine HEN.out.mono ?_
  rintro _ w3 ⟨b3, h3⟩
  have HB3 : Hid (Below w.heap.size w w3) := HB2.out.trans (b3.mono HB2.out.size)
  have C3 := hide (C2.out.later L2 b3)
  clear b3 HEN C2
  rcases h3 with ⟨he, v, rfl, g3⟩ | ⟨hne, rfl⟩
  · obtain ⟨m1, m2, m3, m4, m5⟩ := enE_zero he
    rw [← HN.out] at m2 m3 m5
    rw [← HBL.out] at m5
    have len3 := enB_len p b
    rw [← HN.out, ← HBL.out] at len3
    obtain ⟨gx, cx, rfl, _, lgx, hcx, cells3, _⟩ := g3.cells (by omega)
    rw [len3]
    rw [len3] at g3 hcx cells3
    have AB := ahd_bytes m1 (by rw [← HN.out]; exact m2)
    have BB := bhd_bytes HP.out.src HP.out.dst HP.out.opts
    have T3 := (g3.isB).take (20 + n) (by rw [len3]; omega)
    have et := enB_take p b
    rw [← HN.out, ← HBL.out] at et
    rw [et] at T3
    have SU := rSum_any _ _ w3 T3 (hdB_bytes AB BB _) (by rw [hdB_len, ← HN.out]; omega)
    rw [hdB_sum AB BB] at SU
    have HSU := hide SU
    have x0 : w3.cell? ⟨gx, 0, none⟩ = some (.int .u8 (64 + (20 + (n : Int)) / 4)) := by
      have h1 := cells3 0 (by omega)
      have h2 := enB_get p b 0 (by omega)
      rw [h1, h2, HN.out]
      rfl
    have x15 : w3.cell? ⟨s, 15, none⟩ = some (.slice ao n co) := C3.out 15 _ (by rw [HX.out]; rfl)
    have z1 : (n : Int) ≤ 40 := by omega
    have z2 : (20 : Int) + (n : Int) + (bl : Int) ≤ 65535 := by omega
    have z3 : ((20 + n + bl : Nat) : Int) = 20 + (n : Int) + (bl : Int) := by omega
    have z4 : ((20 + n : Nat) : Int) = 20 + (n : Int) := by omega
    have z5 : (20 : Int) + (n : Int) ≤ (cx : Int) := by omega
    have z6 : (0 : Int) < 20 + (n : Int) + (bl : Int) := by omega
    obtain ⟨bz, hbz⟩ : ∃ bz, bz = 64 + (20 + (n : Int)) / 4 := ⟨_, rfl⟩
    have z7 : 0 ≤ bz ∧ bz ≤ 255 := by omega
    have z70 := z7.1
    have z71 := z7.2
    have z8 : IntKind.i64.wrap bz = bz := wrapI _ (by omega) (by omega)
    rw [← hbz] at x0
    have hbz' : 64 + (20 + (n : Int)) / 4 = bz := hbz.symm
    clear cells3 g3 T3 et AB BB SU m1 m2 m3 m4 m5 len3 he hbz z7 C3
    go_wp2_with fail
    refine HSU.out.mono ?_
    rintro _ w4 ⟨rfl, e4⟩
    rw [e4]
    clear e4 HSU
    go_wp2
    go_ret
    exact ⟨rfl, HB3.out⟩
  · obtain ⟨E, hE⟩ : ∃ E, E = enE p b.length := ⟨_, rfl⟩
    rw [← hE] at hne ⊢
    have q : (E != 0) = true := by simpa using hne
    clear hE hne
    go_wp2
    go_ret
    exact ⟨rfl, HB3.out⟩
end Go.Proofs.Ytiglejmmdghmgaa
