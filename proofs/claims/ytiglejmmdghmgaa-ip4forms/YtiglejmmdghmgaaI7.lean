
/-
  Package ip4: the contract of areRight.
-/
import Derived.Test.YtiglejmmdghmgaaI6
namespace Go.Proofs.Ytiglejmmdghmgaa
open Go.RowKit Go.Shelf
attribute [local go_sem] Oper.semAt_some

theorem put_but (W : World) (l : Nat) (o : Obj) : But (fun g => g = l) W (W.putObj l o) := by
  have hg := grownBy_putObj' W l o
  exact ⟨hg.os, hg.tape, hg.output, hg.size, fun k hk hn => hg.block k hk (fun e => hn (Option.some.inj e))⟩
theorem But.put {K : Nat → Prop} {a W : World} (h : But K a W) {l : Nat} (hl : a.heap.size ≤ l) (o : Obj) : But K a (W.putObj l o) :=
  h.trans' (put_but W l o) (fun g hg e => by omega)
theorem KeepsFrom.of_but {B : Nat} {K : Nat → Prop} {W W' : World} (hb : But K W W') (hk : ∀ g, K g → ∃ o, W.heap[g]? = some o ∧ o.isCells = true) : KeepsFrom B W W' :=
  ⟨hb.size, fun k o _ ho hc => (hb.block k (Array.getElem?_eq_some_iff.1 ho).1 (fun e => by
    obtain ⟨o', h1, h2⟩ := hk k e
    rw [ho] at h1; cases h1; rw [hc] at h2; cases h2)).trans ho⟩
theorem cells_of_cell {W : World} {p : Addr} {v : Value} (h : W.cell? p = some v) : ∃ o, W.heap[p.block]? = some o ∧ o.isCells = true := by
  unfold World.cell? at h
  cases ho : W.heap[p.block]? with
  | none => rw [ho] at h; simp at h
  | some o => refine ⟨o, rfl, ?_⟩; rw [ho] at h; cases o <;> simp_all [Obj.isCells]
theorem okO_step (b : List Int) (h : 0 < b.length) : okO b = if b[0]?.getD 0 = 0 then b.all (fun x => decide (x = 0)) else if szO b = 0 then false else okO (b.drop (szO b)) := by
  rw [okO, dif_neg (by omega)]
  rfl
/-- between two rounds: the options up to there are right; a round has ended the loop -/
def RiI (w1 : World) (bs : List Int) (q : Nat × Bool) (W : World) : Prop := But (fun _ => False) w1 W ∧ q.2 = false ∧ okO bs = okO (bs.drop q.1)
def RiX (w1 : World) (s : Nat) (bs : List Int) (id : Nat) (c : Code) (W : World) : Prop := c = .exit id ∧ But (Only s) w1 W ∧ W.cell? ⟨s, 0, none⟩ = some (.bool (okO bs))
theorem RiX.keep {w1 : World} {s id : Nat} {bs : List Int} {c : Code} {W W' : World} {K : Nat → Prop} (h : RiX w1 s bs id c W) (hr : s < w1.heap.size) (hb : But K W W') (hk : ∀ g, K g → w1.heap.size ≤ g) : RiX w1 s bs id c W' := by
  obtain ⟨h1, h5, h6⟩ := h
  refine ⟨h1, h5.trans' hb (fun q hq e => by have := hk q e; omega), ?_⟩
  exact (hb.cell (p := ⟨s, 0, none⟩) (Nat.lt_of_lt_of_le hr h5.size) (fun e => by have : w1.heap.size ≤ s := hk _ e; omega)).trans h6

set_option maxRecDepth 100000 in
set_option maxHeartbeats 2000000 in
theorem areRight_in (n : Nat) (hn : 3 ≤ n) {w : World} (a0 : Option Addr) (C : Nat) (bs : List Int) (hb : IsB w.heap.size w (.slice a0 bs.length C) bs) (hB : Bytes bs) (hlb : (bs.length : Int) ≤ 4611686018427387904) :
    CallsIn Fence.wide n Try.prog 20 #[.slice a0 bs.length C] w fun e w' => e = .returned (.bool (okO bs)) ∧ Below w.heap.size w w' := by
  have h1 : 1 ≤ n := by omega
  obtain ⟨N, hN⟩ : ∃ N, N = bs.length := ⟨_, rfl⟩
  rw [← hN] at hb hlb ⊢
  obtain ⟨a', c', e', hlc, hnil, hc⟩ := hb
  simp only [Value.slice.injEq] at e'
  obtain ⟨rfl, -, rfl⟩ := e'
  obtain ⟨g, off, hga, hgl, hcs⟩ : ∃ g off, (0 < N → a0 = some ⟨g, off, none⟩) ∧ (0 < N → g < w.heap.size) ∧ ∀ j, j < N → w.cell? ⟨g, off + j, none⟩ = some (.int .u8 (bs[j]?.getD 0)) := by
    by_cases h0 : 0 < N
    · obtain ⟨g, off, e, hg, hcs⟩ := hc (by omega)
      exact ⟨g, off, fun _ => e, fun _ => hg, fun j hj => hcs j (by omega)⟩
    · exact ⟨0, 0, fun h => absurd h h0, fun h => absurd h h0, fun j hj => by omega⟩
  rw [← hN] at hlc
  have HN := hide hN.symm
  clear hN hc hnil
  refine callsIn_of_wp_marks Try.func20 rfl trivial ?_ rfl
  simp only [Try.ntmps20, List.size_toArray, List.length_cons, List.length_nil, Nat.reduceAdd, Nat.reduceSub, Array.replicate_succ, Array.replicate_zero, List.push_toArray, List.append_toArray, List.nil_append, List.cons_append]
  gi_wp2_with fail
  refine wpIn_scope_straight ?_
  gi_wp2_with fail
  refine wpIn_label ?_
  gi_wp2_with fail
  refine ⟨trivial, ?_⟩
  refine (options_in (n - 1) a0 N C _).mono ?_
  rintro e w' ⟨rfl, rfl⟩
  obtain ⟨s, hs⟩ : ∃ s, s = w.heap.size := ⟨_, rfl⟩
  simp only [World.size_alloc]
  rw [← hs]
  obtain ⟨w1, hw1⟩ : ∃ w1, w1 = (w.alloc (.cells #[.bool true] 4)).alloc (.cells #[.slice a0 N C] 24) := ⟨_, rfl⟩
  rw [← hw1]
  have hb0 : Below w.heap.size w w1 := by rw [hw1]; exact ((Below.refl _ w).alloc (Nat.le_refl _) _).alloc (by simp) _
  have hsz : w1.heap.size = s + 2 := by rw [hw1]; simp [hs]
  have bB := (Boxed.new w 4 (.bool true)).alloc (.cells #[.slice a0 N C] 24)
  have bC := Boxed.new (w.alloc (.cells #[.bool true] 4)) 24 (.slice a0 N C)
  simp only [World.size_alloc] at bC
  rw [← hw1, ← hs] at bB bC
  have cB := bB.cell
  have fB := bB.frozen
  have cC : w1.cell? ⟨s + 1, 0, none⟩ = some (.slice a0 N C) := bC.cell
  have hcs1 : ∀ j, j < N → w1.cell? ⟨g, off + j, none⟩ = some (.int .u8 (bs[j]?.getD 0)) := fun j hj => (hb0.cell (p := ⟨g, off + j, none⟩) (hgl (by omega))).trans (hcs j hj)
  have HB0 := hide hb0
  have HS := hide hs
  clear hs hw1 bB bC hcs hb0
  gi_wp2
  refine wpIn_range h1 (gf := 44) (lb := #[.pointer (some ⟨s + 1, 0, none⟩)]) rfl (enters_of Try.func44 (by kernel_rfl) rfl) (RiI w1 bs) (RiX w1 s bs 0) (0, false)
    (options_tells (n - 1) (by omega) (s + 1) g off N C a0 bs HN.out hlc hga hB hlb _ (fun q W h => ⟨(h.1.cell (p := ⟨s + 1, 0, none⟩) (by show s + 1 < _; omega) id).trans cC, fun j hj => (h.1.cell (p := ⟨g, off + j, none⟩) (by have := hgl (by omega); have := HS.out; show g < _; omega) id).trans (hcs1 j hj)⟩) (fun q W h => ⟨h.1.drew, h.2⟩))
    (fun q args h => by obtain ⟨_, _, c, e⟩ := h; rw [e]; rfl) (fun q W o h => ⟨h.1.alloc o, h.2⟩) (fun q W l o o' hl ho hc h => ⟨h.1.put hl o', h.2⟩) (fun c W o h => h.keep (by omega) ((But.refl (fun _ => False) W).alloc o) (fun _ e => e.elim)) (fun c W l o o' hl ho hc h => h.keep (by omega) (put_but W l o') (fun q e => by omega)) (fun c W h => h.keep (by omega) ((But.refl (fun _ => False) W).drew) (fun _ e => e.elim)) ⟨But.refl _ _, rfl, rfl⟩ ?round ?done ?stop
  case round =>
    rintro l ⟨k, b⟩ args W' hlS hI ⟨hb, hkN, c, rfl⟩
    have hb : b = false := hb
    have hkN : k < N := hkN
    subst hb
    have HI := hide hI
    have HSZ := hide hsz
    clear hI hsz
    obtain ⟨z, hz⟩ : ∃ z, z = szO (bs.drop k) := ⟨_, rfl⟩
    obtain ⟨x, hx⟩ : ∃ x, x = bs[k]?.getD 0 := ⟨_, rfl⟩
    have hz' : z = szO (bs.drop (k, false).1) := hz
    have hx' : x = bs[(k, false).1]?.getD 0 := hx
    rw [← hz', ← hx']
    clear hz' hx'
    have hl : (bs.drop k).length = N - k := by rw [List.length_drop, HN.out]
    have ST := okO_step (bs.drop k) (by omega)
    have h00 : (bs.drop k)[0]?.getD 0 = x := by rw [List.getElem?_drop, Nat.add_zero, hx]
    rw [h00, ← hz, List.drop_drop] at ST
    have HZ := hide hz
    have HST := hide ST
    have HL := hide hl
    have HX0 := hide h00
    clear hz hx ST hl h00
    gi_wp2
    refine ⟨KeepsFrom.refl _ _, ?_⟩
    intro o o' hoo hc
    have hI2 : RiI w1 bs (k, false) (W'.putObj l o') := ⟨HI.out.1.put hlS o', HI.out.2⟩
    clear hoo hc HI
    generalize W'.putObj l o' = W2 at *
    have hbt := hI2.1
    have hHS := HS.out
    have hsz := HSZ.out
    have r2 : W2.cell? ⟨s, 0, none⟩ = some (.bool true) := (hbt.cell (p := ⟨s, 0, none⟩) (by show s < _; omega) id).trans cB
    have f2 : W2.frozen? ⟨s, 0, none⟩ = false := (hbt.frozen (p := ⟨s, 0, none⟩) (by show s < _; omega) id).trans fB
    have ok2 : okO bs = okO (bs.drop k) := hI2.2.2
    have HOK := hide ok2
    have HBT := hide hbt
    have hc2 : ∀ j, j < (bs.drop k).length → W2.cell? ⟨g, off + k + j, none⟩ = some (.int .u8 ((bs.drop k)[j]?.getD 0)) := fun j hj => by
      rw [List.getElem?_drop, Nat.add_assoc]
      exact (hbt.cell (p := ⟨g, off + (k + j), none⟩) (by have := hgl (by omega); show g < _; omega) id).trans (hcs1 (k + j) (by have := HL.out; omega))
    have HC2 := hide hc2
    clear hI2 hbt hHS ok2 hc2 hsz
    have FIN : ∀ v, v = okO bs → KeepsFrom w1.heap.size W2 (W2.setCell ⟨s, 0, none⟩ (.bool v)) ∧ RiX w1 s bs 0 (.exit 0) (W2.setCell ⟨s, 0, none⟩ (.bool v)) := fun v hv => by
      refine ⟨KeepsFrom.of_but (K := Only s) ((But.refl (Only s) _).cellb (b := s) rfl 0 _) (fun g e => by have e : g = s := e; subst e; exact cells_of_cell r2), rfl, But.cellb (K := Only s) (b := s) (HBT.out.mono (fun _ e => e.elim)) rfl 0 _, ?_⟩
      rw [World.cell?_setCell_same' _ _ _ (by rw [r2]; rfl), hv]
    have HFIN := hide FIN
    clear FIN
    by_cases x0 : x = 0
    · have q0 : (x == 0) = true := by rw [x0]; rfl
      have ez : z = (bs.drop k).length := by
        rw [HZ.out]
        unfold szO
        rw [if_pos (by rw [HX0.out]; exact x0)]
      have AN := areNoughts_any (some ⟨g, off + k, none⟩) c (bs.drop k) W2 (fun _ => ⟨g, off + k, rfl, HC2.out⟩) (by have := HL.out; omega)
      rw [← ez] at AN
      have e1 : okO bs = (bs.drop k).all (fun x => decide (x = 0)) := by
        rw [HOK.out, HST.out, if_pos x0]
      rw [← e1] at AN
      have HAN := hide AN
      clear AN e1 ez
      gi_wp2_with fail
      refine ⟨trivial, fun h => by simp [Fence.wide] at h, ?_⟩
      refine (callsIn_round HAN.out).mono ?_
      rintro _ w2 ⟨rfl, e2⟩
      rw [e2]
      clear e2 HAN
      gi_wp2
      exact HFIN.out _ rfl
    · have q0 : (x == 0) = false := by simpa using x0
      by_cases z0 : z = 0
      · have e1 : okO bs = false := by
          rw [HOK.out, HST.out, if_neg x0, if_pos z0]
        have q1 : ((z : Int) == 0) = true := by rw [z0]; rfl
        have F := hide (HFIN.out false e1.symm)
        clear x0 z0 e1 HFIN
        gi_wp2
        exact F.out
      · have q1 : ((z : Int) == 0) = false := by simpa using z0
        have e1 : okO bs = okO (bs.drop (k + z)) := by
          rw [HOK.out, HST.out, if_neg x0, if_neg z0]
        have F : Hid (KeepsFrom w1.heap.size W2 W2 ∧ RiI w1 bs (k + z, decide (z = 0)) W2) := ⟨KeepsFrom.refl _ _, HBT.out, decide_eq_false z0, e1⟩
        clear x0 z0 e1
        gi_wp2
        exact F.out
  case done =>
    rintro D' ⟨k, b⟩ W hD hfin hI hK
    have e1 : okO bs = true := by
      have h2 : b = false := hI.2.1
      have h3 : okO bs = okO (bs.drop k) := hI.2.2
      rcases hfin with h | h
      · have h : b = true := h
        rw [h2] at h
        cases h
      · have h : k = N := h
        rw [h3, h, List.drop_of_length_le (by rw [HN.out]; exact Nat.le_refl _)]
        exact okO_nil
    have hHS := HS.out
    have r2 : W.cell? ⟨s, 0, none⟩ = some (.bool true) := (hI.1.cell (p := ⟨s, 0, none⟩) (by show s < _; omega) id).trans cB
    have HB : Hid (Below w.heap.size w W) := HB0.out.trans (hI.1.below (by omega) (fun _ _ e => e))
    have E1 := hide e1
    clear hI hHS e1
    gi_wp2
    try simp only [Exit.noGoto]
    refine ⟨by simp, .inl ⟨_, _, rfl, run_takeDeferred hK, ?_⟩⟩
    exact ⟨_, results_tmp rfl _ _ _, (by rw [E1.out]; rfl), HB.out.trans (belowK_b (w := w) (Nat.le_refl _) _ D' _ _ (by have := HS.out; have := HB0.out.size; omega) hK rfl rfl)⟩
  case stop =>
    rintro D' c W hD ⟨rfl, hb, hc⟩ hK
    have HB : Hid (Below w.heap.size w W) := HB0.out.trans (hb.below (by have := HS.out; omega) (fun q hq e => by have e : q = s := e; have := HS.out; omega))
    clear hb
    gi_wp2
    try simp only [Exit.noGoto]
    refine ⟨by simp, .inl ⟨_, _, rfl, run_takeDeferred hK, ?_⟩⟩
    exact ⟨_, results_tmp rfl _ _ _, rfl, HB.out.trans (belowK_b (w := w) (Nat.le_refl _) _ D' _ _ (by have := HS.out; have := HB0.out.size; omega) hK rfl rfl)⟩
theorem areRight_any {w : World} {v : Value} {bs : List Int} (hb : IsB w.heap.size w v bs) (hB : Bytes bs) (hl : (bs.length : Int) ≤ 4611686018427387904) :
    Calls Try.prog 20 #[v] w fun e w' => e = .returned (.bool (okO bs)) ∧ Below w.heap.size w w' := by
  obtain ⟨a, c, rfl, r⟩ := hb
  exact callsIn_wide.1 (areRight_in 3 (Nat.le_refl _) a c bs ⟨a, c, rfl, r⟩ hB hl)
end Go.Proofs.Ytiglejmmdghmgaa
