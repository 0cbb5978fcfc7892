
/-
  Package ip4: the contracts of sizes, of bytes.Clone.
-/
import Derived.Test.YtiglejmmdghmgaaI9
namespace Go.Proofs.Ytiglejmmdghmgaa
open Go.RowKit Go.Shelf

/-- a byte, a word -/
def nb (bs : List Int) (k : Nat) : Int := bs[k]?.getD 0
def w16 (bs : List Int) (k : Nat) : Int := 256 * nb bs k + nb bs (k + 1)
theorem rd16_at {bs : List Int} {k : Nat} (h : k + 2 ≤ bs.length) : rd16 bs (k : Int) = w16 bs k := by
  unfold rd16
  rw [if_pos (by simp [stB]; omega), Int.toNat_natCast]
  rfl
theorem nb_bd {bs : List Int} (h : Bytes bs) (k : Nat) : 0 ≤ nb bs k ∧ nb bs k ≤ 255 := h.getD k
theorem w16_bd {bs : List Int} (h : Bytes bs) (k : Nat) : 0 ≤ w16 bs k ∧ w16 bs k ≤ 65535 := by
  have h1 := nb_bd h k
  have h2 := nb_bd h (k + 1)
  unfold w16
  omega
/-- the head's length, the whole one -/
def hsI (bs : List Int) : Int := nb bs 0 % 16 * 4
def szI (bs : List Int) : Int := w16 bs 2
section
variable {o : Oper} {w : World} {ev : Operand → Value}
theorem exec_and15 (x : Operand) (t : TypeId) (n : Int) (ho : o.op = .binOp .and 5 x (.const (.int .u8 15)) t) (hc : ∀ v, ev (.const v) = v) (hx : ev x = .int .u8 n) (h0 : 0 ≤ n) (h1 : n ≤ 255) : (execOp ev o).run Try.prog w = .ok (.value (.int .u8 (n % 16))) w := by
  have e := u8_and15 n h0 h1
  unfold execOp
  simp [ho, hx, hc, go_sem, e]
theorem exec_cvti (x : Operand) (n : Int) (ho : o.op = .convert 5 3 x) (hx : ev x = .int .u8 n) (h0 : 0 ≤ n) (h1 : n ≤ 255) : (execOp ev o).run Try.prog w = .ok (.value (.int .i64 n)) w := by
  have e : IntKind.i64.wrap n = n := wrapI n (by omega) (by omega)
  unfold execOp
  simp [ho, hx, go_sem, e]
theorem exec_mulc (x : Operand) (t : TypeId) (c n : Int) (ho : o.op = .binOp .mul 3 x (.const (.int .i64 c)) t) (hc : ∀ v, ev (.const v) = v) (hx : ev x = .int .i64 n) (h0 : -9223372036854775808 ≤ n * c) (h1 : n * c ≤ 9223372036854775807) : (execOp ev o).run Try.prog w = .ok (.value (.int .i64 (n * c))) w := by
  have e : IntKind.i64.wrap (n * c) = n * c := wrapI _ h0 h1
  unfold execOp
  simp [ho, hx, hc, go_sem, e]
theorem exec_ixC (x : Operand) (c : Int) (g off n cap k : Nat) (hk : (k : Int) = c) (ho : o.op = .indexAddr 24 x (.const (.int .i64 c))) (hc : ∀ v, ev (.const v) = v) (hx : ev x = .slice (some ⟨g, off, none⟩) n cap) (hl : k < n) : (execOp ev o).run Try.prog w = .ok (.value (.pointer (some ⟨g, off + k, none⟩))) w := by
  subst hk
  exact exec_ixU x _ g off n cap k ho hx (hc _) hl
end
theorem at_val (v : Value) (bs : List Int) (k : Nat) (W : World) (hb : IsB W.heap.size W v bs) (hB : Bytes bs) (hl : (bs.length : Int) ≤ 4611686018427387904) (hk : k + 2 ≤ bs.length) :
    Calls Try.prog 42 #[v, .int .i64 (k : Int)] W fun e W' => ∃ u, e = .returned u ∧ u = .int .i64 (w16 bs k) ∧ Below W.heap.size W W' :=
  (at_any v bs (k : Int) W hb hB hl (by omega)).mono (by rintro _ W' ⟨rfl, h⟩; exact ⟨_, rfl, by rw [rd16_at hk], h⟩)
set_option maxRecDepth 100000 in
set_option maxHeartbeats 2000000 in
theorem sizes_any (g off cap : Nat) (bs : List Int) (w : World) (hb : IsB w.heap.size w (.slice (some ⟨g, off, none⟩) bs.length cap) bs) (hB : Bytes bs) (hl : (bs.length : Int) ≤ 4611686018427387904) (h20 : 20 ≤ bs.length) :
    Calls Try.prog 28 #[.slice (some ⟨g, off, none⟩) bs.length cap] w fun e w' => e = .returned (.tuple #[.int .i64 (hsI bs), .int .i64 (szI bs)]) ∧ Below w.heap.size w w' := by
  obtain ⟨n, hn⟩ : ∃ n, n = bs.length := ⟨_, rfl⟩
  rw [← hn] at hb hl h20 ⊢
  have HB := hide hb
  have HN := hide hn
  have cell : ∀ W, Below w.heap.size w W → ∀ j, j < n → W.cell? ⟨g, off + j, none⟩ = some (.int .u8 (nb bs j)) := fun W hW j hj => by
    obtain ⟨a, c, e, _, _, hc⟩ := hb.below hW
    simp only [Value.slice.injEq] at e
    obtain ⟨rfl, _, rfl⟩ := e
    obtain ⟨b', off', e, _, hcs⟩ := hc (by omega)
    cases e
    exact hcs j (by omega)
  have CW := hide cell
  have x0 := nb_bd hB 0
  have HX0 := hide x0
  clear hb hn cell x0
  go_enter Try.func28, Try.ntmps28
  go_upto_region 1 with fail
  refine region_grow (w := w) (fun i v W => match i with | 0 => v = .slice (some ⟨g, off, none⟩) n cap | 1 => v = .pointer (some ⟨g, off + 0, none⟩) | 2 => v = .int .u8 (nb bs 0) | 3 => v = .int .u8 (nb bs 0 % 16) | 4 => v = .int .i64 (nb bs 0 % 16) | 5 => v = .int .i64 (nb bs 0 % 16 * 4) | 6 => v = .slice (some ⟨g, off, none⟩) n cap | 7 => v = .int .i64 (w16 bs 2) | 8 => v = .int .i64 (nb bs 0 % 16 * 4) | 9 => v = .int .i64 (w16 bs 2) | _ => True) (by kernel_rfl) (by kernel_rfl) (by kernel_rfl) (no_guard (by kernel_rfl)) (fun i v W W' h hb => match i, h with | 0, h => h | 1, h => h | 2, h => h | 3, h => h | 4, h => h | 5, h => h | 6, h => h | 7, h => h | 8, h => h | 9, h => h | _ + 10, h => h) ?_ ?_
  · intro listed a W hM hn i o ho hr
    have B := hM.bel
    match i, ho, hr with
    | 0, ho, hr =>
      have u0 : a.eval (.tmp 0) = .slice (some ⟨g, off, none⟩) n cap := hM.keep (t := 0) (by kernel_rfl)
      exact Step.of rfl (.inl ⟨.slice (some ⟨g, off, none⟩) n cap, W, exec_move _ _ rfl u0, Below.refl _ _, rfl⟩) ho
    | 1, ho, hr =>
      have u4 := hM.use hr rfl (j := 0) (by kernel_rfl) rfl rfl
      have u4 : a.eval (.tmp 4) = .slice (some ⟨g, off, none⟩) n cap := u4
      exact Step.of rfl (.inl ⟨.pointer (some ⟨g, off + 0, none⟩), W, exec_ixC _ 0 g off n cap 0 rfl rfl (fun _ => rfl) u4 (by omega), Below.refl _ _, rfl⟩) ho
    | 2, ho, hr =>
      have u5 := hM.use hr rfl (j := 1) (by kernel_rfl) rfl rfl
      have u5 : a.eval (.tmp 5) = .pointer (some ⟨g, off + 0, none⟩) := u5
      exact Step.of rfl (.inl ⟨.int .u8 (nb bs 0), W, exec_load1 5 oneU _ rfl g (off + 0) u5 (.int .u8 (nb bs 0)) (CW.out W (((Below.refl _ w).drew).trans B) 0 (by omega)), Below.refl _ _, rfl⟩) ho
    | 3, ho, hr =>
      have u6 := hM.use hr rfl (j := 2) (by kernel_rfl) rfl rfl
      have u6 : a.eval (.tmp 6) = .int .u8 (nb bs 0) := u6
      exact Step.of rfl (.inl ⟨.int .u8 (nb bs 0 % 16), W, exec_and15 _ _ _ rfl (fun _ => rfl) u6 HX0.out.1 HX0.out.2, Below.refl _ _, rfl⟩) ho
    | 4, ho, hr =>
      have u7 := hM.use hr rfl (j := 3) (by kernel_rfl) rfl rfl
      have u7 : a.eval (.tmp 7) = .int .u8 (nb bs 0 % 16) := u7
      exact Step.of rfl (.inl ⟨.int .i64 (nb bs 0 % 16), W, exec_cvti _ _ rfl u7 (by have := HX0.out; omega) (by have := HX0.out; omega), Below.refl _ _, rfl⟩) ho
    | 5, ho, hr =>
      have u8 := hM.use hr rfl (j := 4) (by kernel_rfl) rfl rfl
      have u8 : a.eval (.tmp 8) = .int .i64 (nb bs 0 % 16) := u8
      exact Step.of rfl (.inl ⟨.int .i64 (nb bs 0 % 16 * 4), W, exec_mulc _ _ _ _ rfl (fun _ => rfl) u8 (by have := HX0.out; omega) (by have := HX0.out; omega), Below.refl _ _, rfl⟩) ho
    | 6, ho, hr =>
      have u0 : a.eval (.tmp 0) = .slice (some ⟨g, off, none⟩) n cap := hM.keep (t := 0) (by kernel_rfl)
      exact Step.of rfl (.inl ⟨.slice (some ⟨g, off, none⟩) n cap, W, exec_move _ _ rfl u0, Below.refl _ _, rfl⟩) ho
    | 7, ho, hr =>
      have u10 := hM.use hr rfl (j := 6) (by kernel_rfl) rfl rfl
      have u10 : a.eval (.tmp 10) = .slice (some ⟨g, off, none⟩) n cap := u10
      refine Step.of rfl (.inr ⟨42, #[.slice (some ⟨g, off, none⟩) n cap, .int .i64 2], exec_callF _ _ _ _ rfl (map2 u10 rfl) (enters_of Try.func42 (by kernel_rfl) rfl), ?_⟩) ho
      exact at_val _ bs 2 W (HB.out.later (((Below.refl _ w).drew).trans B)) hB (by rw [← HN.out]; omega) (by rw [← HN.out]; omega)
    | 8, ho, hr =>
      have u9 := hM.use hr rfl (j := 5) (by kernel_rfl) rfl rfl
      have u9 : a.eval (.tmp 9) = .int .i64 (nb bs 0 % 16 * 4) := u9
      exact Step.of rfl (.inl ⟨.int .i64 (nb bs 0 % 16 * 4), W, exec_assign _ _ rfl u9, Below.refl _ _, rfl⟩) ho
    | 9, ho, hr =>
      have u11 := hM.use hr rfl (j := 7) (by kernel_rfl) rfl rfl
      have u11 : (fun v W => v = .int .i64 (w16 bs 2)) (a.eval (.tmp 11)) W := u11
      exact Step.of rfl (.inl ⟨_, W, exec_assign _ _ rfl rfl, Below.refl _ _, u11⟩) ho
    | n + 10, ho, _ => exact absurd (Array.getElem?_eq_some_iff.1 ho).1 (by simp)
  intro listed a W hM hl
  have B := hM.bel
  have p4 : a.tmps.getD 4 undef = .slice (some ⟨g, off, none⟩) n cap := hM.got 0 _ _ rfl (hl 0 (by decide)) rfl
  have p5 : a.tmps.getD 5 undef = .pointer (some ⟨g, off + 0, none⟩) := hM.got 1 _ _ rfl (hl 1 (by decide)) rfl
  have p6 : a.tmps.getD 6 undef = .int .u8 (nb bs 0) := hM.got 2 _ _ rfl (hl 2 (by decide)) rfl
  have p7 : a.tmps.getD 7 undef = .int .u8 (nb bs 0 % 16) := hM.got 3 _ _ rfl (hl 3 (by decide)) rfl
  have p8 : a.tmps.getD 8 undef = .int .i64 (nb bs 0 % 16) := hM.got 4 _ _ rfl (hl 4 (by decide)) rfl
  have p9 : a.tmps.getD 9 undef = .int .i64 (nb bs 0 % 16 * 4) := hM.got 5 _ _ rfl (hl 5 (by decide)) rfl
  have p10 : a.tmps.getD 10 undef = .slice (some ⟨g, off, none⟩) n cap := hM.got 6 _ _ rfl (hl 6 (by decide)) rfl
  have p11 : (fun v W => v = .int .i64 (w16 bs 2)) (a.tmps.getD 11 undef) W := hM.got 7 _ _ rfl (hl 7 (by decide)) rfl
  have p2 : a.tmps.getD 2 undef = .int .i64 (nb bs 0 % 16 * 4) := hM.got 8 _ _ rfl (hl 8 (by decide)) rfl
  have p3 : (fun v W => v = .int .i64 (w16 bs 2)) (a.tmps.getD 3 undef) W := hM.got 9 _ _ rfl (hl 9 (by decide)) rfl
  rw [hM.lit [4, 5, 6, 7, 8, 9, 10, 11, 2, 3] (by kernel_rfl)]
  clear hM hl
  simp only [fill, List.foldl_cons, List.foldl_nil, Act.put, List.setIfInBounds_toArray, List.set_cons_zero, List.set_cons_succ]
  clear p4
  generalize a.tmps.getD 4 undef = x4 at *
  clear p5
  generalize a.tmps.getD 5 undef = x5 at *
  clear p6
  generalize a.tmps.getD 6 undef = x6 at *
  clear p7
  generalize a.tmps.getD 7 undef = x7 at *
  clear p8
  generalize a.tmps.getD 8 undef = x8 at *
  clear p9
  generalize a.tmps.getD 9 undef = x9 at *
  clear p10
  generalize a.tmps.getD 10 undef = x10 at *
  generalize a.tmps.getD 11 undef = x11 at *
  rw [p2]
  clear p2
  generalize a.tmps.getD 3 undef = x3 at *
  have B2 : Hid (Below w.heap.size w W) := ((Below.refl _ w).drew).trans B
  have p3 : x3 = .int .i64 (w16 bs 2) := p3
  subst p3
  clear p11 B
  go_wp2
  refine bodyPost_ret (v := .tuple #[.int .i64 (hsI bs), .int .i64 (szI bs)]) (by simp [results, go_sem]; exact ⟨rfl, rfl⟩) rfl ?_
  exact ⟨rfl, B2.out⟩
set_option maxHeartbeats 1000000 in
/-- a copy in memory of one's own -/
theorem Clone_any (v : Value) (bs : List Int) (w : World) (hb : IsB w.heap.size w v bs) (hl : bs.length ≤ 140737488355328) (hv : ∀ a n c, v = .slice a n c → a ≠ none) :
    Calls Try.prog 30 #[v] w fun e w' => ∃ u, e = .returned u ∧ Gro w.heap.size w' u bs ∧ Below w.heap.size w w' := by
  have q22 : ∀ (w : World) (a : Option Addr) (n c n' c' : Nat), (binOp .eql 24 (.slice a n c) (.slice none n' c')).run Try.prog w = .ok (.bool a.isNone) w := fun w a n c n' c' => Lib.run_eql_slice_nil w _ _ a n c n' c' Try.underlying24
  obtain ⟨a, c, rfl, _⟩ := hb.shape
  obtain ⟨ad, rfl⟩ : ∃ ad, a = some ad := Option.ne_none_iff_exists'.1 (hv _ _ _ rfl)
  obtain ⟨n, hn⟩ : ∃ n, n = bs.length := ⟨_, rfl⟩
  rw [← hn] at hb hl ⊢
  obtain ⟨wn, hwn⟩ : ∃ wn, w.alloc (.cells #[] 5) = wn := ⟨_, rfl⟩
  have bn : Below w.heap.size w wn := by rw [← hwn]; exact later_alloc _ _
  have gn : Gro w.heap.size wn (.slice (some ⟨w.heap.size, 0, none⟩) 0 0) [] := by
    refine ⟨rfl, .inr ⟨w.heap.size, 0, #[], rfl, Nat.le_refl _, ?_, Nat.le_refl _, Nat.zero_le _, rfl, rfl⟩⟩
    rw [← hwn]
    exact heap_alloc_new w _
  have HG := hide gn
  have HBn := hide bn
  have HB := hide (hb.later bn)
  have HN := hide hn
  clear hb hn gn bn
  rw [← hwn] at HG HBn HB
  clear hwn wn hv
  go_enter Try.func30, Try.ntmps30
  go_wp2_with (at_builtin; refine wpList_growB rfl _ _ rfl rfl w.heap.size _ _ [] bs rfl rfl HG.out HB.out HBn.out.size (by rw [← HN.out]; simp; omega) bs (List.nil_append _) ?_)
  intro a4 c4 w4 hc4 g4 b4
  have G4 := hide g4
  have B4 := hide (HBn.out.trans b4)
  clear g4 b4 hc4
  go_wp2
  go_ret
  exact ⟨_, rfl, G4.out, B4.out⟩
end Go.Proofs.Ytiglejmmdghmgaa
