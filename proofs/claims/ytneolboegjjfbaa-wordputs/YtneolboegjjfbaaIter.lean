/-
  The contract of the function that is ranged over (words): it tells the words of the parts' bytes, whatever the loop's body does.
-/
import Derived.RangeFuncNested
import Derived.RangeFuncBound
import Derived.RangeFuncCalls
import Derived.RangeFuncLeaves
import Derived.Shelf.Abstract
import Derived.Shelf.RegionOpen
import Derived.WalkKit
import Derived.OwnWalkIn
import Derived.TacticsInMore
import Derived.LoopNIn
import Derived.LoopIn
import Derived.Test.YtneolboegjjfbaaPut
namespace Go.Proofs.Ytneolboegjjfbaa
open Go.RowKit Go.Shelf
attribute [local go_sem] Oper.semAt_some

/-- a labelled body, inside a fence, where nothing jumps to the label -/
theorem wpIn_scope_straight {F : Fence} {n : Nat} {P : Program} {Q : Exit → Act → World → Prop} {a : Act} {w : World} {c : Code} (h : c.wpIn F n P (Exit.noGoto Q) a w) : (Code.scope c).wpIn F n P Q a w := by
  intro b k cs hro hb hr
  have h0 : (lone (b.atR a (.code (.scope c) :: k)) cs w).fenced P F := fenced_calm hb hr rfl
  have s0 : step P (lone (b.atR a (.code (.scope c) :: k)) cs w) = .next (lone (b.atR a (.code c :: .inScope c :: k)) cs w) := step_lone_go (by simp [stepG, stepG.exec, Frame.atR])
  obtain ⟨e, a₁, w₁, hq, harr⟩ := h b (.inScope c :: k) cs hro hb hr
  have s1 : step P (lone (b.atR a₁ (.inScope c :: k)) cs w₁) = .next (lone (b.atR a₁ k) cs w₁) := step_lone_go (by simp [stepG, stepG.exec, Frame.atR])
  cases e with
  | normal => exact ⟨.normal, a₁, w₁, hq, .head h0 s0 (StepsIn.trans harr (.one (fenced_calm hb hr rfl) s1))⟩
  | exit id =>
    have hx : exitTo id (.inScope c :: k) = exitTo id k := by simp [exitTo]
    exact ⟨.exit id, a₁, w₁, hq, fun k' hk => .head h0 s0 (harr.1 k' (by rw [hx]; exact hk)),
      fun hr' hk => let ⟨k₁, h1, h2⟩ := harr.2 hr' (by rw [hx]; exact hk); ⟨k₁, h1, .head h0 s0 h2⟩⟩
  | goto l => exact hq.elim
  | ret => exact ⟨_, a₁, w₁, hq, .of_steps (.one h0 s0) harr⟩
  | panic ch => exact ⟨_, a₁, w₁, hq, .of_steps (.one h0 s0) harr⟩
  | outgrown => exact ⟨_, a₁, w₁, hq, .of_steps (.one h0 s0) harr⟩

/-- THE SLICE VALUE pv HOLDS THE SLICES vs, in a block below n₀, and each of them the bytes of its part. -/
def IsP (n₀ : Nat) (W : World) (pv : Value) (ps : List (List Int)) : Prop :=
  ∃ (a : Option Addr) (cap : Nat) (vs : List Value), pv = .slice a vs.length cap ∧ vs.length = ps.length ∧
    (0 < vs.length → ∃ b off, a = some ⟨b, off, none⟩ ∧ b < n₀ ∧ ∀ j, j < vs.length → W.cell? ⟨b, off + j, none⟩ = some (vs[j]?.getD undef)) ∧
    ∀ j, j < vs.length → IsB n₀ W (vs[j]?.getD undef) (ps[j]?.getD [])

theorem IsP.below {n₀ : Nat} {A B : World} (h : Below n₀ A B) {v : Value} {ps : List (List Int)} (hp : IsP n₀ A v ps) : IsP n₀ B v ps := by
  obtain ⟨a, cap, vs, e, hl, hc, hb⟩ := hp
  refine ⟨a, cap, vs, e, hl, fun h0 => ?_, fun j hj => (hb j hj).below h⟩
  obtain ⟨b, off, e1, hb, hcs⟩ := hc h0
  exact ⟨b, off, e1, hb, fun j hj => (h.cell (p := ⟨b, off + j, none⟩) hb).trans (hcs j hj)⟩
theorem IsP.mono {n₀ n₁ : Nat} (h : n₀ ≤ n₁) {W : World} {v : Value} {ps : List (List Int)} (hp : IsP n₀ W v ps) : IsP n₁ W v ps := by
  obtain ⟨a, cap, vs, e, hl, hc, hb⟩ := hp
  refine ⟨a, cap, vs, e, hl, fun h0 => ?_, fun j hj => (hb j hj).mono h⟩
  obtain ⟨b, off, e1, hb, hcs⟩ := hc h0
  exact ⟨b, off, e1, by omega, hcs⟩

/-- what the iterator's two variables hold when the bytes p have come -/
def Hi (p : List Int) (h : Int) (o : Bool) : Prop := (o = true ↔ p.length % 2 = 1) ∧ (o = true → h = 256 * p.getLastD 0 ∧ 0 ≤ p.getLastD 0 ∧ p.getLastD 0 ≤ 255)

theorem flat_succ (ps : List (List Int)) (i : Nat) (h : i < ps.length) : (ps.take (i + 1)).flatten = (ps.take i).flatten ++ ps[i]?.getD [] := by
  rw [List.take_add_one, List.flatten_append]; simp [h]
theorem flat_split (ps : List (List Int)) (i : Nat) : ps.flatten = (ps.take i).flatten ++ (ps.drop i).flatten := by rw [← List.flatten_append, List.take_append_drop]
theorem take_snoc (bs : List Int) (j : Nat) (h : j < bs.length) : bs.take (j + 1) = bs.take j ++ [bs[j]?.getD 0] := by
  rw [List.take_add_one]; simp [h]

set_option maxRecDepth 100000 in
set_option maxHeartbeats 2000000 in
theorem words1_in (F : Fence) (n : Nat) (hf : F.fn 28) (hro : F.round = none) (hn : 1 ≤ n) (l Bs n₀ : Nat) (pa : Option Addr) (pcap : Nat) (vs : List Value) (ps : List (List Int)) (hvl : vs.length = ps.length)
    (hlen : (vs.length : Int) ≤ 4611686018427387904) (hps : ∀ bs ∈ ps, Bytes bs ∧ (bs.length : Int) ≤ 4611686018427387904)
    (N : Nat) (hN : (wl ps.flatten).length ≤ N) (J Jx : List Int → World → Prop)
    (hY : ∀ pre x W, J pre W → pre.length < N → YieldAt F (n - 1) Try.prog l #[.int .u16 x] W fun e W' =>
      (e = .returned (.bool true) ∧ J (pre ++ [x]) W' ∧ Below n₀ W W') ∨ (e = .returned (.bool false) ∧ Jx (pre ++ [x]) W'))
    (W : World) (hBs : W.cell? ⟨Bs, 0, none⟩ = some (.slice pa vs.length pcap))
    (hvc : 0 < vs.length → ∃ b off, pa = some ⟨b, off, none⟩ ∧ b < n₀ ∧ ∀ j, j < vs.length → W.cell? ⟨b, off + j, none⟩ = some (vs[j]?.getD undef))
    (hvb : ∀ j, j < vs.length → IsB n₀ W (vs[j]?.getD undef) (ps[j]?.getD [])) (h0 : J [] W) :
    CallsIn F n Try.prog 28 #[.func (.yield l) #[] #[], .pointer (some ⟨Bs, 0, none⟩)] W fun e W' => (∃ v, e = .returned v) ∧
      (J (wl ps.flatten) W' ∨ ∃ pre, Jx pre W') := by
  refine callsIn_of_wp Try.func28 rfl hf ?_ hro
  simp only [Try.ntmps28, List.size_toArray, List.length_cons, List.length_nil, Nat.reduceAdd, Nat.reduceSub, Array.replicate_succ, Array.replicate_zero, List.push_toArray, List.append_toArray, List.nil_append, List.cons_append]
  have HV := hide hvc
  have HB := hide hvb
  have HY := hide hY
  have HN := hide hN
  have HP := hide hps
  have HVL := hide hvl
  clear hvc hvb hY hN hps hvl
  gi_wp2
  refine wpIn_scope_straight ?_
  gi_wp2
  refine wpIn_label ?_
  gi_wp2
  gi_loopw [3, 4, 11] (fun vh vo vi wr => ∃ (i : Nat) (h : Int) (o : Bool), i ≤ vs.length ∧ vi = .int .i64 i ∧ vh = .int .u16 h ∧ vo = .bool o ∧ Hi (ps.take i).flatten h o ∧ J (wp (ps.take i).flatten) wr ∧ Below n₀ W wr) (fun _ _ vi _ => vs.length - (intOf vi).toNat)
  case atStart => exact ⟨0, 0, false, Nat.zero_le _, rfl, rfl, rfl, ⟨by simp, fun e => by cases e⟩, by simpa [wp] using h0, Below.refl _ _⟩
  case round =>
    obtain ⟨i, h, o, hi, rfl, rfl, rfl, hH, hJ, hBl⟩ := hrel
    have HH := hide hH
    clear hH
    by_cases hlt : i < vs.length
    · obtain ⟨b, off, rfl, hb, hcs⟩ := HV.out (by omega)
      have hcell : wr.cell? ⟨b, off + i, none⟩ = some (vs[i]?.getD undef) := (hBl.cell (p := ⟨b, off + i, none⟩) hb).trans (hcs i hlt)
      obtain ⟨a, cap, hv, hlc, hnn, hcc⟩ := HB.out i hlt
      obtain ⟨bs, hbs⟩ : ∃ bs, bs = ps[i]?.getD [] := ⟨_, rfl⟩
      obtain ⟨p0, hp0⟩ : ∃ p0, p0 = (ps.take i).flatten := ⟨_, rfl⟩
      have HS : Hid ((ps.take (i + 1)).flatten = p0 ++ bs) := by rw [hp0, hbs]; exact flat_succ ps i (by have := HVL.out; omega)
      have hbl : Bytes bs ∧ (bs.length : Int) ≤ 4611686018427387904 := HP.out bs (by rw [hbs]; have : i < ps.length := by { have := HVL.out; omega }; simp [this])
      rw [← hp0] at HH hJ
      rw [← hbs] at hv hlc hcc
      rw [hv] at hcell
      have hbl2 := hbl.2
      have HBY := hide hbl.1
      have HCC := hide hcc
      clear hbl hcc hv hbs hp0 hnn hcs
      gi_wp2
      gi_loopw [3, 4, 17] (fun vh vo vj wr => ∃ (j : Nat) (h : Int) (o : Bool), j ≤ bs.length ∧ vj = .int .i64 j ∧ vh = .int .u16 h ∧ vo = .bool o ∧ Hi (p0 ++ bs.take j) h o ∧ J (wp (p0 ++ bs.take j)) wr ∧ Below n₀ W wr) (fun _ _ vj _ => bs.length - (intOf vj).toNat)
      case atStart => exact ⟨0, h, o, Nat.zero_le _, rfl, rfl, rfl, by simpa using HH.out, by simpa using hJ, hBl⟩
      case round =>
        obtain ⟨j, h2, o2, hj, rfl, rfl, rfl, hH2, hJ2, hBl2⟩ := hrel
        have HH2 := hide hH2
        clear hH2 HH hJ hcell
        by_cases hjl : j < bs.length
        · obtain ⟨b2, off2, rfl, hb2, hcs2⟩ := HCC.out (by omega)
          have hc2 : wr.cell? ⟨b2, off2 + j, none⟩ = some (.int .u8 (bs[j]?.getD 0)) := (hBl2.cell (p := ⟨b2, off2 + j, none⟩) hb2).trans (hcs2 j hjl)
          obtain ⟨x0, x1⟩ := HBY.out.getD j
          have HT := hide (take_snoc bs j hjl)
          obtain ⟨x, hx⟩ : ∃ x, x = bs[j]?.getD 0 := ⟨_, rfl⟩
          rw [← hx] at hc2 x0 x1 HT
          clear hx hcs2
          obtain ⟨hH1, hH3⟩ := HH2.out
          clear HH2
          cases o2 with
          | false =>
            have hev : (p0 ++ bs.take j).length % 2 = 0 := by
              have : ¬ (p0 ++ bs.take j).length % 2 = 1 := fun e => by have := hH1.2 e; cases this
              omega
            have HI : Hid (Hi (p0 ++ bs.take (j + 1)) (256 * x) true) := by
              rw [HT.out, ← List.append_assoc]
              refine ⟨⟨fun _ => by simp only [List.length_append, List.length_cons, List.length_nil] at hev ⊢; omega, fun _ => rfl⟩, fun _ => ?_⟩
              rw [last_snoc]; exact ⟨rfl, x0, x1⟩
            have HJ : Hid (J (wp (p0 ++ bs.take (j + 1))) wr) := by
              rw [HT.out, ← List.append_assoc, wp_snoc_even _ _ hev]; exact hJ2
            clear hH1 hH3 hev HT hJ2
            gi_wp2
            go_roundw
            case rel => exact ⟨j + 1, 256 * x, true, by omega, by go_num, by go_num, rfl, HI.out, HJ.out, hBl2⟩
            case measure => simp [intOf]; omega
          | true =>
            have hod : (p0 ++ bs.take j).length % 2 = 1 := hH1.1 rfl
            obtain ⟨hh, l0, l1⟩ := hH3 rfl
            have HW : Hid (bits BinOp.or IntKind.u16 h2 x = 256 * (p0 ++ bs.take j).getLastD 0 + x) := by
              rw [hh]; exact u16_join _ _ l0 l1 x0 x1
            have HI : Hid (Hi (p0 ++ bs.take (j + 1)) h2 false) := by
              rw [HT.out, ← List.append_assoc]
              exact ⟨⟨(fun e => by cases e), fun e => by simp only [List.length_append, List.length_cons, List.length_nil] at hod e; omega⟩, fun e => by cases e⟩
            have HE : Hid (wp (p0 ++ bs.take (j + 1)) = wp (p0 ++ bs.take j) ++ [bits BinOp.or IntKind.u16 h2 x]) := by
              show _ = _
              rw [HT.out, ← List.append_assoc, wp_snoc_odd _ _ hod, HW.out]
            have hlt2 : (wp (p0 ++ bs.take j)).length < N := by
              have h1 := HN.out
              rw [wl_length] at h1
              rw [wp_length]
              have h3 : (p0 ++ bs).length ≤ ps.flatten.length := by rw [← HS.out, flat_split ps (i + 1)]; simp
              simp only [List.length_append, List.length_take] at hod h3 ⊢
              omega
            obtain ⟨fn, tmps, assign, body, hy, hR⟩ := HY.out _ (bits BinOp.or IntKind.u16 h2 x) wr hJ2 hlt2
            clear hH1 hH3 hod hh l0 l1 HW HT hJ2 hlt2
            gi_wp2
            refine hR.mono ?_
            rintro e W3 (⟨rfl, hJ3, hk3⟩ | ⟨rfl, hJx3⟩)
            · gi_wp2
              go_roundw
              case rel => exact ⟨j + 1, h2, false, by omega, by go_num, rfl, rfl, HI.out, by rw [HE.out]; exact hJ3, hBl2.trans hk3⟩
              case measure => simp [intOf]; omega
            · gi_wp2
              simp only [Exit.noGoto]
              go_end0
              exact ⟨⟨_, rfl⟩, .inr ⟨_, hJx3⟩⟩
        · obtain rfl : j = bs.length := by omega
          rw [List.take_length] at HH2 hJ2
          gi_wp2
          go_roundw
          case rel => exact ⟨i + 1, h2, o2, by omega, by go_num, rfl, rfl, by rw [HS.out]; exact HH2.out, by rw [HS.out]; exact hJ2, hBl2⟩
          case measure => simp [intOf]; omega
    · obtain rfl : i = vs.length := by omega
      have hT : (ps.take vs.length).flatten = ps.flatten := by rw [HVL.out, List.take_length]
      rw [hT] at HH hJ
      clear hT
      obtain ⟨hH1, hH3⟩ := HH.out
      clear HH
      cases o with
      | false =>
        have HE : Hid (wl ps.flatten = wp ps.flatten) := wl_even _ (by
          have : ¬ ps.flatten.length % 2 = 1 := fun e => by have := hH1.2 e; cases this
          omega)
        gi_wp2
        simp only [Exit.noGoto]
        go_end0
        exact ⟨⟨_, rfl⟩, .inl (by rw [HE.out]; exact hJ)⟩
      | true =>
        obtain ⟨hh, l0, l1⟩ := hH3 rfl
        have HE : Hid (wl ps.flatten = wp ps.flatten ++ [h]) := by rw [hh]; exact wl_odd _ (hH1.1 rfl)
        have hlt2 : (wp ps.flatten).length < N := by
          have h1 := HN.out
          rw [HE.out] at h1
          simp at h1
          omega
        obtain ⟨fn, tmps, assign, body, hy, hR⟩ := HY.out _ h wr hJ hlt2
        clear hH1 hH3 hh l0 l1 hJ hlt2
        gi_wp2
        refine hR.mono ?_
        rintro e W3 (⟨rfl, hJ3, hk3⟩ | ⟨rfl, hJx3⟩)
        · gi_wp2
          simp only [Exit.noGoto]
          go_end0
          exact ⟨⟨_, rfl⟩, .inl (by rw [HE.out]; exact hJ3)⟩
        · gi_wp2
          simp only [Exit.noGoto]
          go_end0
          exact ⟨⟨_, rfl⟩, .inr ⟨_, hJx3⟩⟩

set_option maxHeartbeats 1000000 in
/-- words(parts): the parts are boxed; the function value captures the box. -/
theorem words_in (F : Fence) (n : Nat) (hf : F.fn 24) (hro : F.round = none) (a : Option Addr) (len cap : Nat) (w : World) :
    CallsIn F n Try.prog 24 #[.slice a len cap] w fun e w' => e = .returned (.func (.func 28) #[] #[.pointer (some ⟨w.heap.size, 0, none⟩)]) ∧ w' = w.alloc (.cells #[.slice a len cap] 44) := by
  refine callsIn_of_wp Try.func24 rfl hf ?_ hro
  simp only [Try.ntmps24, List.size_toArray, List.length_cons, List.length_nil, Nat.reduceAdd, Nat.reduceSub, Array.replicate_succ, Array.replicate_zero, List.push_toArray, List.append_toArray, List.nil_append, List.cons_append]
  gi_wp2
  go_ret
  exact ⟨rfl, rfl⟩

/-- the parts are bytes, and not too many -/
def Small (ps : List (List Int)) : Prop := (ps.length : Int) ≤ 4611686018427387904 ∧ ∀ bs ∈ ps, Bytes bs ∧ (bs.length : Int) ≤ 4611686018427387904

theorem words_stops (F : Fence) (n : Nat) (hf : F.fn 28) (hro : F.round = none) (hn : 1 ≤ n) (Bs n₀ : Nat) (pv : Value) (ps : List (List Int)) (hsm : Small ps) (w : World) (hBs : Bs < w.heap.size) (hn₀ : n₀ ≤ w.heap.size)
    (hc : w.cell? ⟨Bs, 0, none⟩ = some pv) (hI : IsP n₀ w pv ps) :
    SeqStopsK F n Try.prog 28 #[.pointer (some ⟨Bs, 0, none⟩)] (fun x : Int => #[Value.int .u16 x]) (Below n₀) (fun ys => ys = wl ps.flatten) (fun _ => True) (wl ps.flatten).length w := fun l J Jx W hW _ _ hY h0 => by
  have hc' := (hW.cell (p := ⟨Bs, 0, none⟩) hBs).trans hc
  obtain ⟨a, cap, vs, rfl, hvl, hvc, hvb⟩ := hI.below (hW.mono hn₀)
  refine (words1_in F n hf hro hn l Bs n₀ a cap vs ps hvl (by rw [hvl]; exact hsm.1) hsm.2 _ (Nat.le_refl _) J Jx hY W hc' hvc hvb h0).mono ?_
  rintro e W' ⟨he, hj | ⟨pre, hj⟩⟩
  · exact ⟨he, .inl ⟨_, rfl, hj⟩⟩
  · exact ⟨he, .inr ⟨pre, trivial, hj⟩⟩

end Go.Proofs.Ytneolboegjjfbaa
