
/-
  Package wire: what the functions that are ranged over tell.
-/
import Derived.Test.YtghojbgjmpjhgaaW12
namespace Go.Proofs.Ytghojbgjmpjhgaa
open Go.RowKit Go.Shelf
attribute [local go_sem] Oper.semAt_some

theorem young_in (n : Nat) (b : Nat) (i : Nat) (w : World) :
    CallsIn Fence.wide n Try.prog 70 #[.pointer (some ⟨b, 0, none⟩), .int .i64 (i : Int)] w fun e w' => e = .returned (.func (.func 82) #[] #[.pointer (some ⟨w.heap.size, 0, none⟩), .pointer (some ⟨w.heap.size + 1, 0, none⟩)]) ∧ w' = (w.alloc (.cells #[.pointer (some ⟨b, 0, none⟩)] 37)).alloc (.cells #[.int .i64 (i : Int)] 3) := by
  refine callsIn_of_wp Try.func70 rfl trivial ?_ rfl
  simp only [Try.ntmps70, List.size_toArray, List.length_cons, List.length_nil, Nat.reduceAdd, Nat.reduceSub, Array.replicate_succ, Array.replicate_zero, List.push_toArray, List.append_toArray, List.nil_append, List.cons_append]
  gi_wp2
  go_ret
  exact ⟨rfl, rfl⟩
theorem waiting_in (n : Nat) (d : Nat) (w : World) :
    CallsIn Fence.wide n Try.prog 71 #[.pointer (some ⟨d, 0, none⟩)] w fun e w' => e = .returned (.func (.func 83) #[] #[.pointer (some ⟨w.heap.size, 0, none⟩)]) ∧ w' = w.alloc (.cells #[.pointer (some ⟨d, 0, none⟩)] 35) := by
  refine callsIn_of_wp Try.func71 rfl trivial ?_ rfl
  simp only [Try.ntmps71, List.size_toArray, List.length_cons, List.length_nil, Nat.reduceAdd, Nat.reduceSub, Array.replicate_succ, Array.replicate_zero, List.push_toArray, List.append_toArray, List.nil_append, List.cons_append]
  gi_wp2
  go_ret
  exact ⟨rfl, rfl⟩

/-- not yet too old -/
def fresh (ck : Int) (p : Value × Frm) : Bool := !old ck p.2.tick
def youngs (ck : Int) (l : List (Value × Frm)) : List (Value × Frm) := l.filter (fresh ck)
theorem youngs_take {ck : Int} {l : List (Value × Frm)} {m : Nat} {p : Value × Frm} (h : l[m]? = some p) :
    youngs ck (l.take (m + 1)) = youngs ck (l.take m) ++ (if fresh ck p = true then [p] else []) := by
  unfold youngs
  rw [List.take_add_one, h, List.filter_append]
  by_cases e : fresh ck p = true
  · simp [e]
  · simp [e]
theorem youngs_get {ck : Int} {l : List (Value × Frm)} {m : Nat} {p : Value × Frm} (h : l[m]? = some p) (hf : fresh ck p = true) : (youngs ck l)[(youngs ck (l.take m)).length]? = some p := by
  have e : l = l.take (m + 1) ++ l.drop (m + 1) := (List.take_append_drop _ _).symm
  have e2 : youngs ck l = youngs ck (l.take m) ++ ([p] ++ youngs ck (l.drop (m + 1))) := by
    rw [← List.append_assoc]
    have := youngs_take (ck := ck) h
    rw [if_pos hf] at this
    rw [← this]
    unfold youngs
    rw [← List.filter_append, List.take_append_drop]
  rw [e2, List.getElem?_append_right (Nat.le_refl _)]
  simp

def encF (p : Value × Frm) : Array Value := #[.agg #[p.1, .bool p.2.bad, .int .i64 p.2.tick]]

set_option maxRecDepth 100000 in
set_option maxHeartbeats 2000000 in
theorem young_tells (n : Nat) (hn : 1 ≤ n) (wS : World) (Bw Bd b i g c t4 : Nat) (hi : i < 2) (l : List (Value × Frm)) (ck : Int) (a0 : Option Addr) (cB : wS.cell? ⟨Bw, 0, none⟩ = some (.pointer (some ⟨b, 0, none⟩))) (cD : wS.cell? ⟨Bd, 0, none⟩ = some (.int .i64 (i : Int))) (cL : wS.cell? ⟨b, 3 + i, none⟩ = some (.slice a0 l.length c)) (cC : wS.cell? ⟨b, 0, none⟩ = some (.int .i64 ck))
    (hR : ∀ k p, l[k]? = some p → a0 = some ⟨g, 0, none⟩ ∧ wS.cell? ⟨g, k * 3, none⟩ = some p.1 ∧ wS.cell? ⟨g, k * 3 + 1, none⟩ = some (.bool p.2.bad) ∧ wS.cell? ⟨g, k * 3 + 2, none⟩ = some (.int .i64 p.2.tick) ∧ ∃ ap cp, p.1 = .slice ap p.2.bs.length cp) (hck : 0 ≤ ck ∧ ck ≤ 4611686018427387904) (hT : ∀ p ∈ l, 0 ≤ p.2.tick ∧ p.2.tick ≤ ck) (hlb : (l.length : Int) ≤ 9223372036854775807)
    (hw : Bw ≠ t4 ∧ Bd ≠ t4 ∧ b ≠ t4 ∧ g ≠ t4) (I : Nat → World → Prop) (hI : ∀ k W, I k W → But (Only t4) wS W) (hIa : ∀ s W o, I s W → I s (World.alloc W o)) (hId : ∀ s W, I s W → I s (World.drew W)) :
    Tells n 82 #[.pointer (some ⟨Bw, 0, none⟩), .pointer (some ⟨Bd, 0, none⟩)] I (fun k args => ∃ p, (youngs ck l)[k]? = some p ∧ args = encF p) (fun k _ k' => k' = k + 1) (fun k => k = (youngs ck l).length) 0 := by
  intro lp B Bx W hBa hXa hBd hXd hY h0 hB0
  have key : ∀ k W', I k W' → W'.cell? ⟨Bw, 0, none⟩ = some (.pointer (some ⟨b, 0, none⟩)) ∧ W'.cell? ⟨Bd, 0, none⟩ = some (.int .i64 (i : Int)) ∧ W'.cell? ⟨b, 3 + i, none⟩ = some (.slice a0 l.length c) ∧ W'.cell? ⟨b, 0, none⟩ = some (.int .i64 ck) ∧
      ∀ k p, l[k]? = some p → W'.cell? ⟨g, k * 3, none⟩ = some p.1 ∧ W'.cell? ⟨g, k * 3 + 1, none⟩ = some (.bool p.2.bad) ∧ W'.cell? ⟨g, k * 3 + 2, none⟩ = some (.int .i64 p.2.tick) := fun k W' h => by
    have hb := hI k W' h
    refine ⟨(hb.cell (p := ⟨Bw, 0, none⟩) (World.block_lt_of_cell? wS _ cB) hw.1).trans cB, (hb.cell (p := ⟨Bd, 0, none⟩) (World.block_lt_of_cell? wS _ cD) hw.2.1).trans cD, (hb.cell (p := ⟨b, 3 + i, none⟩) (World.block_lt_of_cell? wS _ cL) hw.2.2.1).trans cL, (hb.cell (p := ⟨b, 0, none⟩) (World.block_lt_of_cell? wS _ cC) hw.2.2.1).trans cC, fun k p hp => ?_⟩
    obtain ⟨_, h1, h2, h3, _⟩ := hR k p hp
    exact ⟨(hb.cell (p := ⟨g, k * 3, none⟩) (World.block_lt_of_cell? wS _ h1) hw.2.2.2).trans h1, (hb.cell (p := ⟨g, k * 3 + 1, none⟩) (World.block_lt_of_cell? wS _ h2) hw.2.2.2).trans h2, (hb.cell (p := ⟨g, k * 3 + 2, none⟩) (World.block_lt_of_cell? wS _ h3) hw.2.2.2).trans h3⟩
  obtain ⟨q1, q2, q3, q4, _⟩ := key 0 W h0
  have KEY := hide key
  have HY := hide hY
  have HR := hide hR
  have HT := hide hT
  have HIA := hide hIa
  have HBA := hide hBa
  have ID0 := hide (hId 0 W h0)
  have BD0 := hide (hBd W hB0)
  clear key hY hR hT hIa hBa h0 hB0 cB cD cL cC hI hXa hXd hId hBd hw
  refine callsIn_of_wp Try.func82 rfl trivial ?_ rfl
  simp only [Try.ntmps82, List.size_toArray, List.length_cons, List.length_nil, Nat.reduceAdd, Nat.reduceSub, Array.replicate_succ, Array.replicate_zero, List.push_toArray, List.append_toArray, List.nil_append, List.cons_append]
  have hi2 : (i : Int) < 2 := by omega
  have hi0 : (0 : Int) ≤ (i : Int) := by omega
  gi_wp2
  refine wpIn_mono (Q := fun e a w' => match e with
    | .normal => a = { tmps := #[.func (.yield lp) #[] #[], .pointer (some ⟨Bw, 0, none⟩), .pointer (some ⟨Bd, 0, none⟩), undef, undef, undef, .pointer (some ⟨b, 0, none⟩), .int .i64 (i : Int), .pointer (some ⟨b, 0, none⟩), .pointer (some ⟨b, 3, none⟩), .pointer (some ⟨b, 3 + i, none⟩), .slice a0 l.length c, .int .i64 (l.length : Int), .int .i64 0, undef, undef, undef, undef, undef, undef, undef, undef, undef, undef, undef, undef, undef, undef, undef], defers := [] } ∧ w' = W.drew
    | _ => False) ?_ ?_
  · gi_region_with (fail)
    all_goals exact ⟨rfl, rfl⟩
  rintro e a1 w1 hq
  cases e with
  | normal => ?_
  | _ => exact hq.elim
  obtain ⟨rfl, rfl⟩ := hq
  clear q1 q2 q3 q4
  gi_wp2
  gi_loopw [13] (fun va wr => ∃ (m : Nat), va = .int .i64 (m : Int) ∧ m ≤ l.length ∧ Hid (I (youngs ck (l.take m)).length wr) ∧ Hid (B wr)) (fun va _ => l.length - (intOf va).toNat)
  case atStart => exact ⟨0, rfl, Nat.zero_le _, ID0.out, BD0.out⟩
  case round =>
    obtain ⟨m, rfl, hm, hIm, hBm⟩ := hrel
    by_cases hlt : m < l.length
    · obtain ⟨p, hp⟩ : ∃ p, l[m]? = some p := ⟨_, List.getElem?_eq_getElem hlt⟩
      obtain ⟨ea, _, _, _, ap, cp, epv⟩ := HR.out m p hp
      subst ea
      obtain ⟨q1, _, _, q4, q5⟩ := KEY.out _ wr hIm.out
      obtain ⟨r0, r1, r2⟩ := q5 m p hp
      have htk := HT.out p (List.mem_of_getElem? hp)
      have hmi : (m : Int) < (l.length : Int) := by omega
      have hbl : b < wr.heap.size := World.block_lt_of_cell? wr _ q4
      have hBl : Bw < wr.heap.size := World.block_lt_of_cell? wr _ q1
      obtain ⟨pv, f⟩ := p
      simp only at r0 r1 r2 htk epv
      subst epv
      obtain ⟨len, hlen⟩ : ∃ len, len = f.bs.length := ⟨_, rfl⟩
      rw [← hlen] at r0 hp
      have HLEN := hide hlen
      clear hlen
      have HP := hide hp
      have q4' : (wr.alloc (.cells #[.slice ap len cp, .bool f.bad, .int .i64 f.tick] 48)).cell? ⟨b, 0, none⟩ = some (.int .i64 ck) := (((But.refl (fun _ => False) wr).alloc (.cells #[.slice ap len cp, .bool f.bad, .int .i64 f.tick] 48)).cell (p := ⟨b, 0, none⟩) hbl id).trans q4
      have O := hide (isOld_any q4' f.tick hck ⟨htk.1, by omega⟩)
      have IA := hide (HIA.out _ wr (.cells #[.slice ap len cp, .bool f.bad, .int .i64 f.tick] 48) hIm.out)
      have BA := hide (HBA.out wr (.cells #[.slice ap len cp, .bool f.bad, .int .i64 f.tick] 48) hBm.out)
      have TK := hide (youngs_take (ck := ck) hp)
      have YG := hide (fun hf => youngs_get (ck := ck) hp hf)
      clear q5 hp htk q4'
      gi_wp2_with fail
      refine ⟨trivial, ?_⟩
      refine (callsIn_wide.2 O.out).mono ?_
      rintro e W3 ⟨rfl, rfl⟩
      cases ho : old ck f.tick with
      | true =>
        have hfr : fresh ck (.slice ap len cp, f) = false := by unfold fresh; simp [ho]
        have TK2 := TK.out
        rw [hfr, if_neg (by simp), List.append_nil] at TK2
        have TK3 := hide TK2
        clear ho hfr TK2 YG O HP r0 r1 r2
        gi_wp2
        refine ⟨fun f hf => (by cases hf), ?_⟩
        gi_wp2
        go_roundw
        case rel => exact ⟨m + 1, by go_num, by omega, by rw [TK3.out]; exact IA.out, BA.out⟩
        case measure => simp [intOf]; omega
      | false =>
        have hfr : fresh ck (.slice ap len cp, f) = true := by unfold fresh; simp [ho]
        have TK2 := TK.out
        rw [hfr, if_pos rfl] at TK2
        have TK3 := hide TK2
        obtain ⟨fn, tmps, assign, body, hy, hR⟩ := HY.out _ _ (encF (.slice ap len cp, f)) IA.out BA.out ⟨_, YG.out hfr, rfl⟩
        have HRd := hide hR
        simp only [encF] at hy
        clear ho hfr TK2 YG O HP hR
        gi_wp2
        refine HRd.out.mono ?_
        rintro e W4 (⟨rfl, s', rfl, hI4, hB4⟩ | ⟨rfl, hX⟩)
        · have HI4 := hide hI4
          have HB4 := hide hB4
          clear hI4 hB4 HRd hy
          gi_wp2
          go_roundw
          case rel => exact ⟨m + 1, by go_num, by omega, by rw [TK3.out, List.length_append]; exact HI4.out, HB4.out⟩
          case measure => simp [intOf]; omega
        · have HX := hide hX
          clear hX HRd hy
          gi_wp2
          show bodyPost Try.prog Try.f82 _ Exit.ret _ _
          refine bodyPost_ret (v := .tuple #[]) (results_none rfl _ _ _) rfl ?_
          exact ⟨⟨_, rfl⟩, .inr HX.out⟩
    · obtain rfl : m = l.length := by omega
      have hI2 := hIm.out
      rw [List.take_length] at hI2
      have HI2 := hide hI2
      clear hIm hI2
      gi_wp2
      go_end0
      exact ⟨⟨_, rfl⟩, .inl ⟨_, rfl, HI2.out, hBm.out⟩⟩
end Go.Proofs.Ytghojbgjmpjhgaa
