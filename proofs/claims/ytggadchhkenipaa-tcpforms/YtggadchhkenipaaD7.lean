
/-
  Package tcp: at16, at32; slices.Chunk.
-/
import Derived.Test.YtggadchhkenipaaD6
namespace Go.Proofs.Ytggadchhkenipaa
open Go.RowKit Go.Shelf
attribute [local go_sem] Oper.semAt_some

def w32 (bs : List Int) (k : Nat) : Int := 16777216 * nb bs k + 65536 * nb bs (k + 1) + 256 * nb bs (k + 2) + nb bs (k + 3)
theorem rd32_at {bs : List Int} {k : Nat} (h : k + 4 ≤ bs.length) : rd32 bs (k : Int) = w32 bs k := by
  unfold rd32
  rw [if_pos (by simp [stB]; omega), Int.toNat_natCast]
  rfl
theorem w32_bd {bs : List Int} (h : Bytes bs) (k : Nat) : 0 ≤ w32 bs k ∧ w32 bs k < 4294967296 := by
  have h1 := nb_bd h k
  have h2 := nb_bd h (k + 1)
  have h3 := nb_bd h (k + 2)
  have h4 := nb_bd h (k + 3)
  unfold w32
  omega
theorem at16_any (v : Value) (bs : List Int) (k : Nat) (w : World) (hb : IsB w.heap.size w v bs) (hB : Bytes bs) (hl : (bs.length : Int) ≤ 4611686018427387904) (hk : k + 2 ≤ bs.length) :
    Calls Try.prog 57 #[v, .int .i64 (k : Int)] w fun e w' => e = .returned (.int .i64 (w16 bs k)) ∧ Below w.heap.size w w' := by
  obtain ⟨a, c, rfl, _⟩ := hb.shape
  have C := hide (At16_any _ bs (k : Int) w hb hB hl (by omega))
  rw [rd16_at hk] at C
  obtain ⟨n, hn⟩ : ∃ n, n = bs.length := ⟨_, rfl⟩
  rw [← hn] at C ⊢
  clear hb hl hn hk
  go_enter Try.func57, Try.ntmps57
  go_wp2_with fail
  refine C.out.mono ?_
  rintro _ w2 ⟨rfl, b2⟩
  have B2 := hide b2
  clear b2 C
  go_wp2
  go_ret
  exact ⟨rfl, B2.out⟩
theorem at32_any (v : Value) (bs : List Int) (k : Nat) (w : World) (hb : IsB w.heap.size w v bs) (hB : Bytes bs) (hl : (bs.length : Int) ≤ 4611686018427387904) (hk : k + 4 ≤ bs.length) :
    Calls Try.prog 58 #[v, .int .i64 (k : Int)] w fun e w' => e = .returned (.int .u32 (w32 bs k)) ∧ Below w.heap.size w w' := by
  obtain ⟨a, c, rfl, _⟩ := hb.shape
  have C := hide (At32_any _ bs (k : Int) w hb hB hl (by omega))
  rw [rd32_at hk] at C
  obtain ⟨n, hn⟩ : ∃ n, n = bs.length := ⟨_, rfl⟩
  rw [← hn] at C ⊢
  clear hb hl hn hk
  go_enter Try.func58, Try.ntmps58
  go_wp2_with fail
  refine C.out.mono ?_
  rintro _ w2 ⟨rfl, b2⟩
  have B2 := hide b2
  clear b2 C
  go_wp2
  go_ret
  exact ⟨rfl, B2.out⟩
theorem rowsIn_wideT {n : Nat} {P : Program} {row : String} {args : Array Value} {w : World} {R : Value → World → Prop} (h : Rows P row args w R) : RowsIn Fence.wide n P row args w R :=
  fun c cs _ => let ⟨v, w', r, s⟩ := h c cs; ⟨v, w', r, stepsIn_wide.2 s⟩
theorem wpOpIn_ofW {n : Nat} {P : Program} {ops : Array Oper} {Q : Exit → Act → World → Prop} (hQ : ∀ a w, ¬ Q .outgrown a w) {i : Nat} {K : Act → World → Prop} {a : Act} {w : World}
    (h : wpOp P ops Q i K a w) : wpOpIn Fence.wide n P ops Q i K a w := by
  unfold wpOp at h
  unfold wpOpIn
  cases ho : ops[i]? with
  | none => rw [ho] at h; exact h
  | some o =>
    rw [ho] at h
    simp only at h ⊢
    split
    · rename_i hw
      rw [if_pos hw] at h
      refine ⟨fun _ _ => trivial, ?_⟩
      have er : Fence.wide.round = none := rfl
      simp only [er, Oper.semAt_none]
      rcases h with h | ⟨_, a', w', h⟩
      · unfold Oper.wp at h
        generalize (execOp a.eval o).run P w = r at h ⊢
        cases r with
        | ok x w' =>
          cases x <;> simp only [Oper.upon, Oper.uponIn] at h ⊢ <;> first
            | exact h
            | exact ⟨trivial, callsIn_wide.2 h⟩
            | exact ⟨fun h => by simp [Fence.wide] at h, callsIn_wide.2 h⟩
            | exact ⟨trivial, rowsIn_wideT h⟩
            | exact ⟨fun h => by simp [Fence.wide] at h, rowsIn_wideT h⟩
            | exact h.elim
        | halt x w' => cases x <;> simp only [Oper.upon, Oper.uponIn] at h ⊢ <;> first | exact h | exact h.elim
      · exact (hQ a' w' h).elim
    · rename_i hw
      rw [if_neg hw] at h
      exact ⟨fun _ _ => trivial, h⟩
theorem wpAnyIn_ofW {n : Nat} {P : Program} {md : Region.Mode} {ops : Array Oper} {Q : Exit → Act → World → Prop} (hQ : ∀ a w, ¬ Q .outgrown a w) :
    ∀ (fuel : Nat) (listed : Array Bool) (a : Act) (w : World), wpAny P md ops Q fuel listed a w → wpAnyIn Fence.wide n P md ops Q fuel listed a w
  | 0, _, _, _, h => h
  | fuel + 1, _, _, _, h => ⟨h.1, fun i hi => wpOpIn_mono (fun a w => wpAnyIn_ofW hQ fuel _ a w) (wpOpIn_ofW hQ (h.2 i hi))⟩
/-- a drawn region in the wide fence, outside rounds; in a round, by the laws of T8 -/
theorem region_wide {n id : Nat} {ops : Array Oper} {Q : Exit → Act → World → Prop} {a : Act} {w : World} (S : World → Prop) (hm : Try.prog.follows .mixedOrders = true)
    (h : wpAnyH Try.prog .any ops (Well fun a' w' => Q .normal a' w') S ops.size (Array.replicate ops.size false) a w.drew) : (Code.region id ops true).wpIn Fence.wide n Try.prog Q a w := by
  refine wpIn_mono (Q := Well fun a' w' => Q .normal a' w') (wpIn_region_any hm (wpAnyIn_ofW (fun _ _ h => h) _ _ _ _ (wpAny_of_held _ _ _ _ h))) ?_
  intro e a' w' h'
  cases e with
  | normal => exact h'
  | _ => exact h'.elim
section
variable {ops : Array Oper} {Q : Exit → Act → World → Prop}
theorem regionJ_in {l n id : Nat} {a : Act} {w : World} (D : Nat → Bool) (S : World → Prop) (hm : Try.prog.follows .mixedOrders = true) (hnd : ops.all noDefer = true)
    (h : wpAnyJ D .any ops (Well fun a' w' => Q .normal a' w') S ops.size (Array.replicate ops.size false) a w.drew) : (Code.region id ops true).wpIn (Fence.wide.inRound l) n Try.prog Q a w := by
  refine wpIn_mono (Q := Well fun a' w' => Q .normal a' w') (wpIn_region_any hm (wpAnyIn_of (noDefer_of hnd) (fun _ _ h => h) _ _ _ _ (wpAny_of_J _ _ _ _ h))) ?_
  intro e a' w' h'
  cases e with
  | normal => exact h'
  | _ => exact h'.elim
end
theorem exec_min {o : Oper} {w : World} {ev : Operand → Value} (x y : Operand) (a b : Int) (ho : o.op = .call { callee := .builtin .min, args := #[x, y], argTypes := #[3, 3] }) (hx : ev x = .int .i64 a) (hy : ev y = .int .i64 b) (hab : a ≤ b) : (execOp ev o).run Try.prog w = .ok (.value (.int .i64 a)) w := by
  unfold execOp
  simp [ho, hx, hy, resolve, invoke, builtin, Builtin.min_, Builtin.min2]
  omega
theorem chunk_in (n : Nat) (a : Option Addr) (len cap : Nat) (w : World) :
    CallsIn Fence.wide n Try.prog 70 #[.slice a len cap, .int .i64 8] w fun e w' => e = .returned (.func (.func 73) #[] #[.pointer (some ⟨w.heap.size, 0, none⟩), .pointer (some ⟨w.heap.size + 1, 0, none⟩)]) ∧ w' = (w.alloc (.cells #[.slice a len cap] 24)).alloc (.cells #[.int .i64 8] 3) := by
  refine callsIn_of_wp Try.func70 rfl trivial ?_ rfl
  simp only [Try.ntmps70, List.size_toArray, List.length_cons, List.length_nil, Nat.reduceAdd, Nat.reduceSub, Array.replicate_succ, Array.replicate_zero, List.push_toArray, List.append_toArray, List.nil_append, List.cons_append]
  gi_wp2
  go_ret
  exact ⟨by simp, rfl⟩
set_option maxRecDepth 100000 in
set_option maxHeartbeats 4000000 in
theorem chunk_tells (n : Nat) (hn : 1 ≤ n) (Bc Bn g off q C : Nat) (a0 : Option Addr) (hq : q ≤ 3) (hC : 8 * q ≤ C) (ha : 0 < q → a0 = some ⟨g, off, none⟩) (I : Nat → World → Prop)
    (hI : ∀ s W, I s W → W.cell? ⟨Bc, 0, none⟩ = some (.slice a0 (8 * q) C) ∧ W.cell? ⟨Bn, 0, none⟩ = some (.int .i64 8)) (hId : ∀ s W, I s W → I s W.drew) :
    Tells n 73 #[.pointer (some ⟨Bc, 0, none⟩), .pointer (some ⟨Bn, 0, none⟩)] I (fun k args => k < q ∧ args = #[.slice (some ⟨g, off + 8 * k, none⟩) 8 8]) (fun k _ k' => k' = k + 1) (fun k => k = q) 0 := by
  intro lp B Bx W hBa hXa hBd hXd hY h0 hB0
  have KEY := hide hI
  have HY := hide hY
  have HA := hide ha
  have I0 := hide h0
  have B0 := hide hB0
  have HBD := hide hBd
  have HID := hide hId
  clear hI hY h0 hB0 hBa hXa hBd hXd ha hId
  obtain ⟨N, hN⟩ : ∃ N, N = 8 * q := ⟨_, rfl⟩
  rw [← hN] at KEY hC
  have HN := hide hN
  clear hN
  refine callsIn_of_wp Try.func73 rfl trivial ?_ rfl
  simp only [Try.ntmps73, List.size_toArray, List.length_cons, List.length_nil, Nat.reduceAdd, Nat.reduceSub, Array.replicate_succ, Array.replicate_zero, List.push_toArray, List.append_toArray, List.nil_append, List.cons_append]
  gi_wp2
  gi_loopw [4] (fun va wr => ∃ (k p : Nat), va = .int .i64 (p : Int) ∧ k ≤ q ∧ Hid (p = 8 * k) ∧ Hid (I k wr) ∧ Hid (B wr)) (fun va _ => N - (intOf va).toNat)
  case atStart => exact ⟨0, 0, rfl, Nat.zero_le _, rfl, I0.out, B0.out⟩
  case round =>
    obtain ⟨k, p, rfl, hk, hp, hIm, hBm⟩ := hrel
    obtain ⟨q1, q2⟩ := KEY.out _ wr hIm.out
    by_cases hlt : k < q
    · have ea := HA.out (by omega)
      subst ea
      have z1 : (p : Int) < (N : Int) := by have := hp.out; have := HN.out; omega
      have z2 : (p : Int) ≤ (N : Int) := by omega
      have z3 : (p : Int) ≤ (C : Int) := by omega
      have z4 : (0 : Int) ≤ (p : Int) := by omega
      have z5 : k * 8 + 8 ≤ N := by have := HN.out; omega
      obtain ⟨fn, tmps, assign, body, hy, hR⟩ := HY.out k wr.drew #[.slice (some ⟨g, off + 8 * k, none⟩) 8 8] (HID.out _ _ hIm.out) (HBD.out _ hBm.out) ⟨hlt, rfl⟩
      have HYR := hide hy
      have HRd := hide hR
      clear hy hR
      gi_wp2_with fail
      refine region_wide (S := fun W => W = wr.drew) (by kernel_rfl) ?_
      refine takeD (i := 0) (v := .int .i64 8) 13 rfl rfl (by kernel_rfl) (by kernel_rfl) (by kernel_rfl) (fun _ _ _ h => h) (.inl ⟨by rfl, fun W hW => exec_load1 3 one1 _ rfl Bn 0 rfl (.int .i64 8) (by rw [hW]; exact q2)⟩) (rfl) ?_
      try simp only [Act.put, List.setIfInBounds_toArray, List.set_cons_zero, List.set_cons_succ]
      refine takeD (i := 1) (v := .slice (some ⟨g, off, none⟩) N C) 14 rfl rfl (by kernel_rfl) (by kernel_rfl) (by kernel_rfl) (fun _ _ _ h => h) (.inl ⟨by rfl, fun W hW => exec_load1 24 oneS _ rfl Bc 0 rfl (.slice (some ⟨g, off, none⟩) N C) (by rw [hW]; exact q1)⟩) (rfl) ?_
      try simp only [Act.put, List.setIfInBounds_toArray, List.set_cons_zero, List.set_cons_succ]
      refine takeD (i := 2) (v := .int .i64 (p : Int)) 15 rfl rfl (by kernel_rfl) (by kernel_rfl) (by kernel_rfl) (fun _ _ _ h => h) (.inl ⟨by rfl, fun W hW => exec_move _ _ rfl rfl⟩) (rfl) ?_
      try simp only [Act.put, List.setIfInBounds_toArray, List.set_cons_zero, List.set_cons_succ]
      refine takeD (i := 3) (v := .slice (some ⟨g, off + p, none⟩) (N - p) (C - p)) 16 rfl rfl (by kernel_rfl) (by kernel_rfl) (by kernel_rfl) (fun _ _ _ h => h) (.inl ⟨by rfl, fun W hW => exec_slB _ _ g off N C p rfl rfl rfl (by omega) hC⟩) (rfl) ?_
      try simp only [Act.put, List.setIfInBounds_toArray, List.set_cons_zero, List.set_cons_succ]
      refine takeD (i := 4) (v := .int .i64 ((N - p : Nat) : Int)) 17 rfl rfl (by kernel_rfl) (by kernel_rfl) (by kernel_rfl) (fun _ _ _ h => h) (.inl ⟨by rfl, fun W hW => exec_len _ _ _ _ _ rfl rfl rfl⟩) (rfl) ?_
      try simp only [Act.put, List.setIfInBounds_toArray, List.set_cons_zero, List.set_cons_succ]
      refine takeD (i := 5) (v := .int .i64 8) 18 rfl rfl (by kernel_rfl) (by kernel_rfl) (by kernel_rfl) (fun _ _ _ h => h) (.inl ⟨by rfl, fun W hW => exec_min _ _ _ _ rfl rfl rfl (by have := hp.out; omega)⟩) (rfl) ?_
      try simp only [Act.put, List.setIfInBounds_toArray, List.set_cons_zero, List.set_cons_succ]
      refine takeD (i := 6) (v := .int .i64 8) 5 rfl rfl (by kernel_rfl) (by kernel_rfl) (by kernel_rfl) (fun _ _ _ h => h) (.inl ⟨by rfl, fun W hW => exec_assign _ _ rfl rfl⟩) (rfl) ?_
      try simp only [Act.put, List.setIfInBounds_toArray, List.set_cons_zero, List.set_cons_succ]
      refine doneR (by kernel_rfl) _ ?_
      obtain ⟨r, hr⟩ : ∃ r, r = p + 8 := ⟨_, rfl⟩
      have w8 : wrap64 ((p : Int) + 8) = (r : Int) := by have := hp.out; unfold wrap64; omega
      have hrp : r - p = 8 := by omega
      have hrp0 : ¬ r = p := by omega
      have z6 : (p : Int) ≤ (r : Int) := by omega
      have z7 : (r : Int) ≤ (C : Int) := by have := hp.out; omega
      have eo : Hid (off + 8 * k = off + p) := by unfold Hid; rw [hp.out]
      rw [eo.out] at HYR
      have HR := hide hr
      have HW8 := hide w8
      have hy := HYR.out
      clear hr
      gi_wp2
      refine HRd.out.mono ?_
      rintro e W4 (⟨rfl, s', rfl, hI4, hB4⟩ | ⟨rfl, hX⟩)
      · have HI4 := hide hI4
        have HB4 := hide hB4
        obtain ⟨_, q3⟩ := KEY.out _ W4 hI4
        clear hI4 hB4 HRd hy HYR
        gi_wp2
        go_roundw
        case rel => exact ⟨k + 1, r, by rw [HW8.out], by omega, by unfold Hid; have := hp.out; have := HR.out; omega, HI4.out, HB4.out⟩
        case measure =>
          have m1 := HR.out
          have m2 := HN.out
          have m3 := hp.out
          show N - (intOf (.int .i64 (wrap64 ((p : Int) + 8)))).toNat < N - (intOf (.int .i64 (p : Int))).toNat
          rw [HW8.out]
          show N - ((r : Int)).toNat < N - ((p : Int)).toNat
          omega
      · have HX := hide hX
        clear hX HRd hy HYR
        gi_wp2
        show bodyPost Try.prog Try.f73 _ Exit.ret _ _
        refine bodyPost_ret (v := .tuple #[]) (results_none rfl _ _ _) rfl ?_
        exact ⟨⟨_, rfl⟩, .inr HX.out⟩
    · have e : k = q := by omega
      subst e
      have z1 : ¬ (p : Int) < (N : Int) := by have := hp.out; have := HN.out; omega
      gi_wp2
      go_end0
      first | exact ⟨⟨_, rfl⟩, .inl ⟨_, rfl, hIm.out, hBm.out⟩⟩ | exact ⟨⟨_, rfl⟩, .inl ⟨hIm.out, hBm.out⟩⟩
end Go.Proofs.Ytggadchhkenipaa
