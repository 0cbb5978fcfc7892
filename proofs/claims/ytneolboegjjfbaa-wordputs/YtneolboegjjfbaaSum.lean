/-
  The contract of Sum: the checksum of the parts' bytes, one behind the other.
-/
import Derived.Test.YtneolboegjjfbaaIter
namespace Go.Proofs.Ytneolboegjjfbaa
open Go.RowKit Go.Shelf
attribute [local go_sem] Oper.semAt_some

/-- what the sum's variable holds when these words have come -/
def sumW (xs : List Int) : Int := xs.foldl (fun s v => IntKind.u64.wrap (s + IntKind.u64.wrap v)) 0
theorem sumW_snoc (pre : List Int) (x : Int) : sumW (pre ++ [x]) = IntKind.u64.wrap (sumW pre + IntKind.u64.wrap x) := by simp [sumW]

theorem sumW_eq : ∀ (pre : List Int), (∀ x ∈ pre, 0 ≤ x) → pre.sum < 2 ^ 64 → sumW pre = pre.sum := by
  intro pre
  have key : ∀ (l : List Int) (s : Int), 0 ≤ s → (∀ x ∈ l, 0 ≤ x) → s + l.sum < 2 ^ 64 → l.foldl (fun s v => IntKind.u64.wrap (s + IntKind.u64.wrap v)) s = s + l.sum := by
    intro l
    induction l with
    | nil => intro s _ _ _; simp
    | cons x l ih =>
      intro s h0 hx hs
      have hx0 := hx x (by simp)
      have hl0 : 0 ≤ l.sum := by
        have : ∀ (m : List Int), (∀ y ∈ m, 0 ≤ y) → 0 ≤ m.sum := by
          intro m; induction m with
          | nil => simp
          | cons y m ih => intro h; have := h y (by simp); have := ih (fun z hz => h z (by simp [hz])); simp; omega
        exact this l (fun y hy => hx y (by simp [hy]))
      simp only [List.sum_cons] at hs ⊢
      rw [List.foldl_cons, u64_wrap x hx0 (by omega), u64_wrap (s + x) (by omega) (by omega), ih (s + x) (by omega) (fun y hy => hx y (by simp [hy])) (by omega)]
      omega
  intro h1 h2
  have := key pre 0 (by omega) h1 (by omega)
  simpa [sumW] using this

theorem wl_nonneg : ∀ (p : List Int), Bytes p → ∀ x ∈ wl p, 0 ≤ x
  | [], _ => by simp [wl]
  | [a], h => by have := h a (by simp); simp [wl]; omega
  | a :: b :: r, h => by
    have h1 := h a (by simp)
    have h2 := h b (by simp)
    have h3 := wl_nonneg r (fun x hx => h x (by simp [hx]))
    intro x hx
    simp only [wl, List.mem_cons] at hx
    rcases hx with rfl | hx
    · omega
    · exact h3 x hx

theorem flat_bytes {ps : List (List Int)} (h : ∀ bs ∈ ps, Bytes bs) : Bytes ps.flatten := fun x hx => by
  obtain ⟨l, hl, hxl⟩ := List.mem_flatten.1 hx
  exact h l hl x hxl

set_option maxRecDepth 100000 in
set_option maxHeartbeats 2000000 in
theorem Sum_in (n : Nat) (hn : 3 ≤ n) (a : Option Addr) (len cap : Nat) (ps : List (List Int)) (hsm : Small ps) (hto : (ps.flatten.length : Int) ≤ 562949953421300)
    (w : World) (hI : IsP w.heap.size w (.slice a len cap) ps) :
    CallsIn Fence.wide n Try.prog 17 #[.slice a len cap] w fun e W' => e = .returned (.int .i64 (csum ps.flatten)) ∧ Below w.heap.size w W' := by
  have h1 : 1 ≤ n := by omega
  have hby : Bytes ps.flatten := flat_bytes (fun bs h => (hsm.2 bs h).1)
  have hs0 := wsum_nonneg _ hby
  have hs1 := wsum_le _ hby
  have HS : Hid (sumW (wl ps.flatten) = wsum ps.flatten) := sumW_eq _ (wl_nonneg _ hby) (by
    show wsum ps.flatten < 2 ^ 64
    omega)
  have HF : Hid (0 ≤ wsum ps.flatten ∧ wsum ps.flatten < 2 ^ 64) := ⟨hs0, by omega⟩
  clear hs0 hs1 hby hto
  refine callsIn_of_wp_marks Try.func17 rfl trivial ?_ rfl
  simp only [Try.ntmps17, List.size_toArray, List.length_cons, List.length_nil, Nat.reduceAdd, Nat.reduceSub, Array.replicate_succ, Array.replicate_zero, List.push_toArray, List.append_toArray, List.nil_append, List.cons_append]
  have HI := hide hI
  have HSM := hide hsm
  clear hI hsm
  gi_wp2_with fail
  refine ⟨trivial, ?_⟩
  refine (words_in Fence.wide (n - 1) trivial rfl _ _ _ _).mono ?_
  rintro e w' ⟨rfl, rfl⟩
  gi_wp2
  have bS := Boxed.new w 45 (.int .u64 0)
  have bN := Boxed.new (w.alloc (.cells #[.int .u64 0] 45)) 44 (.slice a len cap)
  rw [World.size_alloc] at bN
  have hB0 : Below w.heap.size w ((w.alloc (.cells #[.int .u64 0] 45)).alloc (.cells #[.slice a len cap] 44)) := ((Below.refl _ w).alloc (Nat.le_refl _) _).alloc (by simp) _
  have hro : Fence.wide.round = none := rfl
  have hfn : Fence.wide.fn 28 := trivial
  refine wpIn_rangeFunc_ownG hro h1 (gf := 28) (lb := #[.pointer (some ⟨w.heap.size + 1, 0, none⟩)]) rfl hfn (enters_of Try.func28 (by kernel_rfl) rfl)
    (words_stops Fence.wide (n - 1) hfn hro (by omega) (w.heap.size + 1) w.heap.size _ ps HSM.out _ (by simp) (by simp; omega) bN.cell (HI.out.below hB0)) belowK_t (belowK_b (by simp; omega)) (Below.refl _ _) (fun _ => rfl)
    (fun pre W => (W.cell? ⟨w.heap.size, 0, none⟩ = some (.int .u64 (sumW pre)) ∧ W.frozen? ⟨w.heap.size, 0, none⟩ = false) ∧ Below w.heap.size w W)
    (fun _ _ _ => False)
    (OwnFrom.and (Own.from (fun s A B row hs hg hr => ⟨cell_kept hs.1 hg hr, (frozen_kept hs.1 hg hr).trans hs.2⟩) _) (ownFrom_below (Nat.le_refl _) (by simp; omega)))
    (fun _ _ _ _ _ hs _ _ => hs)
    ⟨⟨(bS.alloc _).cell, (bS.alloc _).frozen⟩, hB0⟩
    (fun x => { tmps := #[.slice a len cap, undef, .int .i64 0, .pointer (some ⟨w.heap.size, 0, none⟩), .int .u16 x, .slice a len cap, .func (.func 28) #[] #[.pointer (some ⟨w.heap.size + 1, 0, none⟩)], .int .u16 x, undef, undef, undef, undef, undef, undef, undef], defers := [] }) ?assign ?body ?done ?stop
  case assign =>
    intro l x W K hK
    gi_wp2
    exact hK
  case body =>
    rintro l pre x W ⟨⟨hc, hf⟩, hB⟩ _
    gi_wp2
    exact ⟨(KeepsOthers.setCell _ _ _).from _, (Below.refl w.heap.size W).setCell (p := ⟨w.heap.size, 0, none⟩) (Nat.le_refl _) _, ⟨by rw [sumW_snoc]; exact World.cell?_setCell_same' _ _ _ (by rw [hc]; rfl), by rw [World.frozen?_setCell]; exact hf⟩, hB.setCell (p := ⟨w.heap.size, 0, none⟩) (Nat.le_refl _) _⟩
  case done =>
    rintro D ys W hD rfl ⟨⟨hc, _⟩, hB⟩ hK
    rw [HS.out] at hc
    have hbd := foldI_bd (wsum ps.flatten)
    obtain ⟨hbd0, hbd1⟩ := hbd
    gi_wp2_with fail
    refine ⟨trivial, ?_⟩
    refine (callsIn_wide.2 (fold_any _ HF.out.1 HF.out.2 _)).mono ?_
    rintro e w' ⟨rfl, rfl⟩
    gi_wp2
    refine ⟨by simp, .inl ⟨_, _, rfl, run_takeDeferred hK, ?_⟩⟩
    exact ⟨_, results_tmp rfl _ _ _, rfl, hB.trans (belowK_b (w := w) (Nat.le_refl _) _ D _ _ (by simp at hD; omega) hK rfl rfl)⟩
  case stop =>
    rintro D c pre W _ _ h _
    exact h.elim

theorem Sum_any (pv : Value) (ps : List (List Int)) (hsm : Small ps) (hto : (ps.flatten.length : Int) ≤ 562949953421300) (w : World) (hI : IsP w.heap.size w pv ps) :
    Calls Try.prog 17 #[pv] w fun e W' => e = .returned (.int .i64 (csum ps.flatten)) ∧ Below w.heap.size w W' := by
  obtain ⟨a, cap, vs, rfl, r⟩ := hI
  exact callsIn_wide.1 (Sum_in 3 (Nat.le_refl _) a vs.length cap ps hsm hto w ⟨a, cap, vs, rfl, r⟩)

end Go.Proofs.Ytneolboegjjfbaa
