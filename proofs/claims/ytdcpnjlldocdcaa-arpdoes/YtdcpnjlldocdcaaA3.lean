
/-
  Package arp: the neighbours in memory; which places the function that is ranged over tells.
-/
import Derived.Test.YtdcpnjlldocdcaaA2
namespace Go.Proofs.Ytdcpnjlldocdcaa
open Go.RowKit Go.Shelf
attribute [local go_sem] Oper.semAt_some

/-- a neighbour -/
structure Nb where
  ip : I4
  st : Int
  mac : M6
  since : Int
  asked : Int
  tries : Int
  pd : List Int
/-- its fifteen cells; v is the slice of those that wait -/
def Nb.cells (x : Nb) (v : Value) : List Value := x.ip.vals ++ (.int .i64 x.st :: (x.mac.vals ++ [.int .i64 x.since, .int .i64 x.asked, .int .i64 x.tries, v]))
theorem Nb.cells_len (x : Nb) (v : Value) : (x.cells v).length = 15 := rfl

/-- has so long gone by? -/
def psB (f n t : Int) : Bool := decide (f ≤ n ∧ t ≤ n - f)
set_option maxHeartbeats 1000000 in
theorem havePassed_any (f n t : Int) (w : World) (hf : -9223372036854775808 ≤ f ∧ f ≤ 9223372036854775807) (hn : -9223372036854775808 ≤ n ∧ n ≤ 9223372036854775807) (ht : 0 ≤ t ∧ t ≤ 1000) :
    Calls Try.prog 35 #[.int .i64 f, .int .i64 n, .int .i64 t] w fun e w' => e = .returned (.bool (psB f n t)) ∧ w' = w := by
  go_enter Try.func35, Try.ntmps35
  by_cases h : f ≤ n
  · have e : IntKind.u64.wrap (IntKind.u64.wrap n - IntKind.u64.wrap f) = n - f := by
      show ((n % 18446744073709551616) - (f % 18446744073709551616)) % 18446744073709551616 = n - f
      omega
    have HE := hide e
    clear e
    go_wp2_with fail
    go_ret
    refine ⟨?_, rfl⟩
    rw [HE.out]
    simp [psB, h]
  · go_wp2_with fail
    go_ret
    refine ⟨?_, rfl⟩
    simp [psB]
    omega

theorem neighbours_in (n : Nat) (b : Nat) (w : World) :
    CallsIn Fence.wide n Try.prog 34 #[.pointer (some ⟨b, 0, none⟩)] w fun e w' => e = .returned (.func (.func 46) #[] #[.pointer (some ⟨w.heap.size, 0, none⟩)]) ∧ w' = w.alloc (.cells #[.pointer (some ⟨b, 0, none⟩)] 37) := by
  refine callsIn_of_wp Try.func34 rfl trivial ?_ rfl
  simp only [Try.ntmps34, List.size_toArray, List.length_cons, List.length_nil, Nat.reduceAdd, Nat.reduceSub, Array.replicate_succ, Array.replicate_zero, List.push_toArray, List.append_toArray, List.nil_append, List.cons_append]
  gi_wp2
  go_ret
  exact ⟨rfl, rfl⟩

set_option maxRecDepth 100000 in
set_option maxHeartbeats 2000000 in
/-- the places are told in order: all of them -/
theorem neighbours_tells (n : Nat) (hn : 1 ≤ n) (Bc b g len c : Nat) (a0 : Option Addr) (ha : 0 < len → a0 = some ⟨g, 0, none⟩) (hlb : (len : Int) ≤ 1000) (I : Nat → World → Prop)
    (hI : ∀ k W, I k W → W.cell? ⟨Bc, 0, none⟩ = some (.pointer (some ⟨b, 0, none⟩)) ∧ W.cell? ⟨b, 10, none⟩ = some (.slice a0 len c)) :
    Tells n 46 #[.pointer (some ⟨Bc, 0, none⟩)] I (fun k args => k < len ∧ args = #[.pointer (some ⟨g, k * 15, none⟩)]) (fun k _ k' => k' = k + 1) (fun k => k = len) 0 := by
  intro lp B Bx W hBa hXa hBd hXd hY h0 hB0
  obtain ⟨q1, q2⟩ := hI 0 W h0
  have KEY := hide hI
  have HY := hide hY
  have HA := hide ha
  have I0 := hide h0
  have B0 := hide hB0
  clear hI hY h0 hB0 hBa hXa hBd hXd ha
  refine callsIn_of_wp Try.func46 rfl trivial ?_ rfl
  simp only [Try.ntmps46, List.size_toArray, List.length_cons, List.length_nil, Nat.reduceAdd, Nat.reduceSub, Array.replicate_succ, Array.replicate_zero, List.push_toArray, List.append_toArray, List.nil_append, List.cons_append]
  gi_wp2
  clear q1 q2
  gi_loopw [9] (fun va wr => ∃ (m : Nat), va = .int .i64 (m : Int) ∧ m ≤ len ∧ Hid (I m wr) ∧ Hid (B wr)) (fun va _ => len - (intOf va).toNat)
  case atStart => exact ⟨0, rfl, Nat.zero_le _, I0.out, B0.out⟩
  case round =>
    obtain ⟨m, rfl, hm, hIm, hBm⟩ := hrel
    by_cases hlt : m < len
    · obtain ⟨q1, q2⟩ := KEY.out _ wr hIm.out
      have ea := HA.out (by omega)
      subst ea
      have hmi : (m : Int) < (len : Int) := by omega
      have hm0 : (0 : Int) ≤ (m : Int) := by omega
      obtain ⟨fn, tmps, assign, body, hy, hR⟩ := HY.out m wr #[.pointer (some ⟨g, m * 15, none⟩)] hIm.out hBm.out ⟨hlt, rfl⟩
      have HRd := hide hR
      clear hR
      gi_wp2
      refine HRd.out.mono ?_
      rintro e W4 (⟨rfl, s', rfl, hI4, hB4⟩ | ⟨rfl, hX⟩)
      · have HI4 := hide hI4
        have HB4 := hide hB4
        clear hI4 hB4 HRd hy
        gi_wp2
        go_roundw
        case rel => exact ⟨m + 1, by go_num, by omega, HI4.out, HB4.out⟩
        case measure => simp [intOf]; omega
      · have HX := hide hX
        clear hX HRd hy
        gi_wp2
        show bodyPost Try.prog Try.f46 _ Exit.ret _ _
        refine bodyPost_ret (v := .tuple #[]) (results_none rfl _ _ _) rfl ?_
        exact ⟨⟨_, rfl⟩, .inr HX.out⟩
    · have e : m = len := by omega
      subst e
      gi_wp2
      go_end0
      exact ⟨⟨_, rfl⟩, .inl ⟨_, rfl, hIm.out, hBm.out⟩⟩
end Go.Proofs.Ytdcpnjlldocdcaa
