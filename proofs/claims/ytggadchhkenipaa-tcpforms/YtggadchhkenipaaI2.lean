
/-
  Joined out of Calc Iter Sum Awake SumN.
-/
import Derived.Test.YtggadchhkenipaaAMem
import Derived.Test.YtggadchhkenipaaA2
import Derived.Test.YtggadchhkenipaaI1
import Derived.WalkKit
import Derived.WalkSpells
import Derived.WalkLawsBesides
import Derived.RangeFuncNested
import Derived.RangeFuncBound
import Derived.RangeFuncCalls
import Derived.RangeFuncLeaves
import Derived.Shelf.Abstract
import Derived.Shelf.RegionOpen
import Derived.OwnWalkIn
import Derived.TacticsInMore
import Derived.LoopNIn
import Derived.LoopIn
namespace Go.Proofs.Ytggadchhkenipaa
open Go.RowKit Go.Shelf
attribute [local go_sem] Oper.semAt_some

set_option maxHeartbeats 400000 in
theorem fold_any (s : Int) (h0 : 0 ≤ s) (h1 : s < 2 ^ 64) (w : World) :
    Calls Try.prog 50 #[.int .u64 s] w fun e w' => e = .returned (.int .i64 (foldI s)) ∧ w' = w := by
  have H1 : Hid (s < 2 ^ 64) := h1
  clear h1
  go_enter Try.func50, Try.ntmps50
  go_wp2
  go_loop [0] (fun t => ∃ y : Int, 0 ≤ y ∧ y ≤ s ∧ Hid (foldI y = foldI s) ∧ t = .int .u64 y) (fun t => (intOf t).toNat)
  case atStart => exact ⟨s, by omega, by omega, rfl, rfl⟩
  case round =>
    obtain ⟨y, hy1, hy2, hy3, rfl⟩ := hrel
    have H2 : Hid (y < 2 ^ 64) := by have := H1.out; show y < 2 ^ 64; omega
    have hb : bits BinOp.and IntKind.u64 y 65535 = y % 65536 := u64_and65535 y
    by_cases hc : 65535 < y
    · have hw : Hid (IntKind.u64.wrap (y / 65536 + y % 65536) = y / 65536 + y % 65536) := u64_wrap _ (by omega) (by have := H2.out; omega)
      go_wp2
      go_round
      case rel => exact ⟨y / 65536 + y % 65536, by omega, by omega, (foldI_step y hc).trans hy3, val_int hw.out⟩
      case measure => rw [hw.out]; simp [intOf]; omega
    · go_wp2
      go_ret
      exact ⟨ret_int (by rw [← hy3.out]; exact (foldI_small y hy1 (by omega)).symm), rfl⟩
attribute [local go_sem] Oper.semAt_some
/-- THE SLICE VALUE pv HOLDS THE SLICES vs, in a block below n₀, and each of them the bytes of its part. -/
def IsP (n₀ : Nat) (W : World) (pv : Value) (ps : List (List Int)) : Prop :=
  ∃ (a : Option Addr) (cap : Nat) (vs : List Value), pv = .slice a vs.length cap ∧ vs.length = ps.length ∧
    (0 < vs.length → ∃ b off, a = some ⟨b, off, none⟩ ∧ b < n₀ ∧ ∀ j, j < vs.length → W.cell? ⟨b, off + j, none⟩ = some (vs[j]?.getD undef)) ∧
    ∀ j, j < vs.length → IsB n₀ W (vs[j]?.getD undef) (ps[j]?.getD [])
theorem IsP.below {n₀ : Nat} {A B : World} (h : Below n₀ A B) {v : Value} {ps : List (List Int)} (hp : IsP n₀ A v ps) : IsP n₀ B v ps := by
  obtain ⟨a, cap, vs, e, hl, hc, hb⟩ := hp
  refine ⟨a, cap, vs, e, hl, fun h0 => ?_, fun j hj => (hb j hj).below h⟩
  obtain ⟨b, off, e1, hb, hcs⟩ := hc h0
  exact ⟨b, off, e1, hb, fun j hj => (h.cell (p := ⟨b, off + j, none⟩) hb).trans (hcs j hj)⟩
theorem IsP.mono {n₀ n₁ : Nat} (h : n₀ ≤ n₁) {W : World} {v : Value} {ps : List (List Int)} (hp : IsP n₀ W v ps) : IsP n₁ W v ps := by
  obtain ⟨a, cap, vs, e, hl, hc, hb⟩ := hp
  refine ⟨a, cap, vs, e, hl, fun h0 => ?_, fun j hj => (hb j hj).mono h⟩
  obtain ⟨b, off, e1, hb, hcs⟩ := hc h0
  exact ⟨b, off, e1, by omega, hcs⟩
/-- what the iterator's two variables hold when the bytes p have come -/
def Hi (p : List Int) (h : Int) (o : Bool) : Prop := (o = true ↔ p.length % 2 = 1) ∧ (o = true → h = 256 * p.getLastD 0 ∧ 0 ≤ p.getLastD 0 ∧ p.getLastD 0 ≤ 255)
theorem flat_succ (ps : List (List Int)) (i : Nat) (h : i < ps.length) : (ps.take (i + 1)).flatten = (ps.take i).flatten ++ ps[i]?.getD [] := by
  rw [List.take_add_one, List.flatten_append]; simp [h]
theorem flat_split (ps : List (List Int)) (i : Nat) : ps.flatten = (ps.take i).flatten ++ (ps.drop i).flatten := by rw [← List.flatten_append, List.take_append_drop]
theorem take_snoc (bs : List Int) (j : Nat) (h : j < bs.length) : bs.take (j + 1) = bs.take j ++ [bs[j]?.getD 0] := by
  rw [List.take_add_one]; simp [h]
set_option maxRecDepth 100000 in
set_option maxHeartbeats 2000000 in
theorem words1_in (F : Fence) (n : Nat) (hf : F.fn 62) (hro : F.round = none) (hn : 1 ≤ n) (l Bs n₀ : Nat) (pa : Option Addr) (pcap : Nat) (vs : List Value) (ps : List (List Int)) (hvl : vs.length = ps.length)
    (hlen : (vs.length : Int) ≤ 4611686018427387904) (hps : ∀ bs ∈ ps, Bytes bs ∧ (bs.length : Int) ≤ 4611686018427387904)
    (N : Nat) (hN : (wl ps.flatten).length ≤ N) (J Jx : List Int → World → Prop)
    (hY : ∀ pre x W, J pre W → pre.length < N → YieldAt F (n - 1) Try.prog l #[.int .u16 x] W fun e W' =>
      (e = .returned (.bool true) ∧ J (pre ++ [x]) W' ∧ Below n₀ W W') ∨ (e = .returned (.bool false) ∧ Jx (pre ++ [x]) W'))
    (W : World) (hBs : W.cell? ⟨Bs, 0, none⟩ = some (.slice pa vs.length pcap))
    (hvc : 0 < vs.length → ∃ b off, pa = some ⟨b, off, none⟩ ∧ b < n₀ ∧ ∀ j, j < vs.length → W.cell? ⟨b, off + j, none⟩ = some (vs[j]?.getD undef))
    (hvb : ∀ j, j < vs.length → IsB n₀ W (vs[j]?.getD undef) (ps[j]?.getD [])) (h0 : J [] W) :
    CallsIn F n Try.prog 62 #[.func (.yield l) #[] #[], .pointer (some ⟨Bs, 0, none⟩)] W fun e W' => (∃ v, e = .returned v) ∧
      (J (wl ps.flatten) W' ∨ ∃ pre, Jx pre W') := by
  refine callsIn_of_wp Try.func62 rfl hf ?_ hro
  simp only [Try.ntmps62, List.size_toArray, List.length_cons, List.length_nil, Nat.reduceAdd, Nat.reduceSub, Array.replicate_succ, Array.replicate_zero, List.push_toArray, List.append_toArray, List.nil_append, List.cons_append]
  have HV := hide hvc
  have HB := hide hvb
  have HY := hide hY
  have HN := hide hN
  have HP := hide hps
  have HVL := hide hvl
  clear hvc hvb hY hN hps hvl
  gi_wp2
  refine wpIn_scope_straight ?_
  gi_wp2
  refine wpIn_label ?_
  gi_wp2
  gi_loopw [3, 4, 11] (fun vh vo vi wr => ∃ (i : Nat) (h : Int) (o : Bool), i ≤ vs.length ∧ vi = .int .i64 i ∧ vh = .int .u16 h ∧ vo = .bool o ∧ Hi (ps.take i).flatten h o ∧ J (wp (ps.take i).flatten) wr ∧ Below n₀ W wr) (fun _ _ vi _ => vs.length - (intOf vi).toNat)
  case atStart => exact ⟨0, 0, false, Nat.zero_le _, rfl, rfl, rfl, ⟨by simp, fun e => by cases e⟩, by simpa [wp] using h0, Below.refl _ _⟩
  case round =>
    obtain ⟨i, h, o, hi, rfl, rfl, rfl, hH, hJ, hBl⟩ := hrel
    have HH := hide hH
    clear hH
    by_cases hlt : i < vs.length
    · obtain ⟨b, off, rfl, hb, hcs⟩ := HV.out (by omega)
      have hcell : wr.cell? ⟨b, off + i, none⟩ = some (vs[i]?.getD undef) := (hBl.cell (p := ⟨b, off + i, none⟩) hb).trans (hcs i hlt)
      obtain ⟨a, cap, hv, hlc, hnn, hcc⟩ := HB.out i hlt
      obtain ⟨bs, hbs⟩ : ∃ bs, bs = ps[i]?.getD [] := ⟨_, rfl⟩
      obtain ⟨p0, hp0⟩ : ∃ p0, p0 = (ps.take i).flatten := ⟨_, rfl⟩
      have HS : Hid ((ps.take (i + 1)).flatten = p0 ++ bs) := by rw [hp0, hbs]; exact flat_succ ps i (by have := HVL.out; omega)
      have hbl : Bytes bs ∧ (bs.length : Int) ≤ 4611686018427387904 := HP.out bs (by rw [hbs]; have : i < ps.length := by { have := HVL.out; omega }; simp [this])
      rw [← hp0] at HH hJ
      rw [← hbs] at hv hlc hcc
      rw [hv] at hcell
      have hbl2 := hbl.2
      have HBY := hide hbl.1
      have HCC := hide hcc
      clear hbl hcc hv hbs hp0 hnn hcs
      gi_wp2
      gi_loopw [3, 4, 17] (fun vh vo vj wr => ∃ (j : Nat) (h : Int) (o : Bool), j ≤ bs.length ∧ vj = .int .i64 j ∧ vh = .int .u16 h ∧ vo = .bool o ∧ Hi (p0 ++ bs.take j) h o ∧ J (wp (p0 ++ bs.take j)) wr ∧ Below n₀ W wr) (fun _ _ vj _ => bs.length - (intOf vj).toNat)
      case atStart => exact ⟨0, h, o, Nat.zero_le _, rfl, rfl, rfl, by simpa using HH.out, by simpa using hJ, hBl⟩
      case round =>
        obtain ⟨j, h2, o2, hj, rfl, rfl, rfl, hH2, hJ2, hBl2⟩ := hrel
        have HH2 := hide hH2
        clear hH2 HH hJ hcell
        by_cases hjl : j < bs.length
        · obtain ⟨b2, off2, rfl, hb2, hcs2⟩ := HCC.out (by omega)
          have hc2 : wr.cell? ⟨b2, off2 + j, none⟩ = some (.int .u8 (bs[j]?.getD 0)) := (hBl2.cell (p := ⟨b2, off2 + j, none⟩) hb2).trans (hcs2 j hjl)
          obtain ⟨x0, x1⟩ := HBY.out.getD j
          have HT := hide (take_snoc bs j hjl)
          obtain ⟨x, hx⟩ : ∃ x, x = bs[j]?.getD 0 := ⟨_, rfl⟩
          rw [← hx] at hc2 x0 x1 HT
          clear hx hcs2
          obtain ⟨hH1, hH3⟩ := HH2.out
          clear HH2
          cases o2 with
          | false =>
            have hev : (p0 ++ bs.take j).length % 2 = 0 := by
              have : ¬ (p0 ++ bs.take j).length % 2 = 1 := fun e => by have := hH1.2 e; cases this
              omega
            have HI : Hid (Hi (p0 ++ bs.take (j + 1)) (256 * x) true) := by
              rw [HT.out, ← List.append_assoc]
              refine ⟨⟨fun _ => by simp only [List.length_append, List.length_cons, List.length_nil] at hev ⊢; omega, fun _ => rfl⟩, fun _ => ?_⟩
              rw [last_snoc]; exact ⟨rfl, x0, x1⟩
            have HJ : Hid (J (wp (p0 ++ bs.take (j + 1))) wr) := by
              rw [HT.out, ← List.append_assoc, wp_snoc_even _ _ hev]; exact hJ2
            clear hH1 hH3 hev HT hJ2
            gi_wp2
            go_roundw
            case rel => exact ⟨j + 1, 256 * x, true, by omega, by go_num, by go_num, rfl, HI.out, HJ.out, hBl2⟩
            case measure => simp [intOf]; omega
          | true =>
            have hod : (p0 ++ bs.take j).length % 2 = 1 := hH1.1 rfl
            obtain ⟨hh, l0, l1⟩ := hH3 rfl
            have HW : Hid (bits BinOp.or IntKind.u16 h2 x = 256 * (p0 ++ bs.take j).getLastD 0 + x) := by
              rw [hh]; exact u16_join _ _ l0 l1 x0 x1
            have HI : Hid (Hi (p0 ++ bs.take (j + 1)) h2 false) := by
              rw [HT.out, ← List.append_assoc]
              exact ⟨⟨(fun e => by cases e), fun e => by simp only [List.length_append, List.length_cons, List.length_nil] at hod e; omega⟩, fun e => by cases e⟩
            have HE : Hid (wp (p0 ++ bs.take (j + 1)) = wp (p0 ++ bs.take j) ++ [bits BinOp.or IntKind.u16 h2 x]) := by
              show _ = _
              rw [HT.out, ← List.append_assoc, wp_snoc_odd _ _ hod, HW.out]
            have hlt2 : (wp (p0 ++ bs.take j)).length < N := by
              have h1 := HN.out
              rw [wl_length] at h1
              rw [wp_length]
              have h3 : (p0 ++ bs).length ≤ ps.flatten.length := by rw [← HS.out, flat_split ps (i + 1)]; simp
              simp only [List.length_append, List.length_take] at hod h3 ⊢
              omega
            obtain ⟨fn, tmps, assign, body, hy, hR⟩ := HY.out _ (bits BinOp.or IntKind.u16 h2 x) wr hJ2 hlt2
            clear hH1 hH3 hod hh l0 l1 HW HT hJ2 hlt2
            gi_wp2
            refine hR.mono ?_
            rintro e W3 (⟨rfl, hJ3, hk3⟩ | ⟨rfl, hJx3⟩)
            · gi_wp2
              go_roundw
              case rel => exact ⟨j + 1, h2, false, by omega, by go_num, rfl, rfl, HI.out, by rw [HE.out]; exact hJ3, hBl2.trans hk3⟩
              case measure => simp [intOf]; omega
            · gi_wp2
              simp only [Exit.noGoto]
              go_end0
              exact ⟨⟨_, rfl⟩, .inr ⟨_, hJx3⟩⟩
        · obtain rfl : j = bs.length := by omega
          rw [List.take_length] at HH2 hJ2
          gi_wp2
          go_roundw
          case rel => exact ⟨i + 1, h2, o2, by omega, by go_num, rfl, rfl, by rw [HS.out]; exact HH2.out, by rw [HS.out]; exact hJ2, hBl2⟩
          case measure => simp [intOf]; omega
    · obtain rfl : i = vs.length := by omega
      have hT : (ps.take vs.length).flatten = ps.flatten := by rw [HVL.out, List.take_length]
      rw [hT] at HH hJ
      clear hT
      obtain ⟨hH1, hH3⟩ := HH.out
      clear HH
      cases o with
      | false =>
        have HE : Hid (wl ps.flatten = wp ps.flatten) := wl_even _ (by
          have : ¬ ps.flatten.length % 2 = 1 := fun e => by have := hH1.2 e; cases this
          omega)
        gi_wp2
        simp only [Exit.noGoto]
        go_end0
        exact ⟨⟨_, rfl⟩, .inl (by rw [HE.out]; exact hJ)⟩
      | true =>
        obtain ⟨hh, l0, l1⟩ := hH3 rfl
        have HE : Hid (wl ps.flatten = wp ps.flatten ++ [h]) := by rw [hh]; exact wl_odd _ (hH1.1 rfl)
        have hlt2 : (wp ps.flatten).length < N := by
          have h1 := HN.out
          rw [HE.out] at h1
          simp at h1
          omega
        obtain ⟨fn, tmps, assign, body, hy, hR⟩ := HY.out _ h wr hJ hlt2
        clear hH1 hH3 hh l0 l1 hJ hlt2
        gi_wp2
        refine hR.mono ?_
        rintro e W3 (⟨rfl, hJ3, hk3⟩ | ⟨rfl, hJx3⟩)
        · gi_wp2
          simp only [Exit.noGoto]
          go_end0
          exact ⟨⟨_, rfl⟩, .inl (by rw [HE.out]; exact hJ3)⟩
        · gi_wp2
          simp only [Exit.noGoto]
          go_end0
          exact ⟨⟨_, rfl⟩, .inr ⟨_, hJx3⟩⟩
set_option maxHeartbeats 1000000 in
/-- words(parts): the parts are boxed; the function value captures the box. -/
theorem words_in (F : Fence) (n : Nat) (hf : F.fn 49) (hro : F.round = none) (a : Option Addr) (len cap : Nat) (w : World) :
    CallsIn F n Try.prog 49 #[.slice a len cap] w fun e w' => e = .returned (.func (.func 62) #[] #[.pointer (some ⟨w.heap.size, 0, none⟩)]) ∧ w' = w.alloc (.cells #[.slice a len cap] 72) := by
  refine callsIn_of_wp Try.func49 rfl hf ?_ hro
  simp only [Try.ntmps49, List.size_toArray, List.length_cons, List.length_nil, Nat.reduceAdd, Nat.reduceSub, Array.replicate_succ, Array.replicate_zero, List.push_toArray, List.append_toArray, List.nil_append, List.cons_append]
  gi_wp2
  go_ret
  exact ⟨rfl, rfl⟩
/-- the parts are bytes, and not too many -/
def Small (ps : List (List Int)) : Prop := (ps.length : Int) ≤ 4611686018427387904 ∧ ∀ bs ∈ ps, Bytes bs ∧ (bs.length : Int) ≤ 4611686018427387904
theorem words_stops (F : Fence) (n : Nat) (hf : F.fn 62) (hro : F.round = none) (hn : 1 ≤ n) (Bs n₀ : Nat) (pv : Value) (ps : List (List Int)) (hsm : Small ps) (w : World) (hBs : Bs < w.heap.size) (hn₀ : n₀ ≤ w.heap.size)
    (hc : w.cell? ⟨Bs, 0, none⟩ = some pv) (hI : IsP n₀ w pv ps) :
    SeqStopsK F n Try.prog 62 #[.pointer (some ⟨Bs, 0, none⟩)] (fun x : Int => #[Value.int .u16 x]) (Below n₀) (fun ys => ys = wl ps.flatten) (fun _ => True) (wl ps.flatten).length w := fun l J Jx W hW _ _ hY h0 => by
  have hc' := (hW.cell (p := ⟨Bs, 0, none⟩) hBs).trans hc
  obtain ⟨a, cap, vs, rfl, hvl, hvc, hvb⟩ := hI.below (hW.mono hn₀)
  refine (words1_in F n hf hro hn l Bs n₀ a cap vs ps hvl (by rw [hvl]; exact hsm.1) hsm.2 _ (Nat.le_refl _) J Jx hY W hc' hvc hvb h0).mono ?_
  rintro e W' ⟨he, hj | ⟨pre, hj⟩⟩
  · exact ⟨he, .inl ⟨_, rfl, hj⟩⟩
  · exact ⟨he, .inr ⟨pre, trivial, hj⟩⟩
attribute [local go_sem] Oper.semAt_some
/-- what the sum's variable holds when these words have come -/
def sumW (xs : List Int) : Int := xs.foldl (fun s v => IntKind.u64.wrap (s + IntKind.u64.wrap v)) 0
theorem sumW_snoc (pre : List Int) (x : Int) : sumW (pre ++ [x]) = IntKind.u64.wrap (sumW pre + IntKind.u64.wrap x) := by simp [sumW]
theorem sumW_eq : ∀ (pre : List Int), (∀ x ∈ pre, 0 ≤ x) → pre.sum < 2 ^ 64 → sumW pre = pre.sum := by
  intro pre
  have key : ∀ (l : List Int) (s : Int), 0 ≤ s → (∀ x ∈ l, 0 ≤ x) → s + l.sum < 2 ^ 64 → l.foldl (fun s v => IntKind.u64.wrap (s + IntKind.u64.wrap v)) s = s + l.sum := by
    intro l
    induction l with
    | nil => intro s _ _ _; simp
    | cons x l ih =>
      intro s h0 hx hs
      have hx0 := hx x (by simp)
      have hl0 : 0 ≤ l.sum := by
        have : ∀ (m : List Int), (∀ y ∈ m, 0 ≤ y) → 0 ≤ m.sum := by
          intro m; induction m with
          | nil => simp
          | cons y m ih => intro h; have := h y (by simp); have := ih (fun z hz => h z (by simp [hz])); simp; omega
        exact this l (fun y hy => hx y (by simp [hy]))
      simp only [List.sum_cons] at hs ⊢
      rw [List.foldl_cons, u64_wrap x hx0 (by omega), u64_wrap (s + x) (by omega) (by omega), ih (s + x) (by omega) (fun y hy => hx y (by simp [hy])) (by omega)]
      omega
  intro h1 h2
  have := key pre 0 (by omega) h1 (by omega)
  simpa [sumW] using this
theorem wl_nonneg : ∀ (p : List Int), Bytes p → ∀ x ∈ wl p, 0 ≤ x
  | [], _ => by simp [wl]
  | [a], h => by have := h a (by simp); simp [wl]; omega
  | a :: b :: r, h => by
    have h1 := h a (by simp)
    have h2 := h b (by simp)
    have h3 := wl_nonneg r (fun x hx => h x (by simp [hx]))
    intro x hx
    simp only [wl, List.mem_cons] at hx
    rcases hx with rfl | hx
    · omega
    · exact h3 x hx
theorem flat_bytes {ps : List (List Int)} (h : ∀ bs ∈ ps, Bytes bs) : Bytes ps.flatten := fun x hx => by
  obtain ⟨l, hl, hxl⟩ := List.mem_flatten.1 hx
  exact h l hl x hxl
set_option maxRecDepth 100000 in
set_option maxHeartbeats 2000000 in
theorem Sum_in (n : Nat) (hn : 3 ≤ n) (a : Option Addr) (len cap : Nat) (ps : List (List Int)) (hsm : Small ps) (hto : (ps.flatten.length : Int) ≤ 562949953421300)
    (w : World) (hI : IsP w.heap.size w (.slice a len cap) ps) :
    CallsIn Fence.wide n Try.prog 32 #[.slice a len cap] w fun e W' => e = .returned (.int .i64 (csum ps.flatten)) ∧ Below w.heap.size w W' := by
  have h1 : 1 ≤ n := by omega
  have hby : Bytes ps.flatten := flat_bytes (fun bs h => (hsm.2 bs h).1)
  have hs0 := wsum_nonneg _ hby
  have hs1 := wsum_le _ hby
  have HS : Hid (sumW (wl ps.flatten) = wsum ps.flatten) := sumW_eq _ (wl_nonneg _ hby) (by
    show wsum ps.flatten < 2 ^ 64
    omega)
  have HF : Hid (0 ≤ wsum ps.flatten ∧ wsum ps.flatten < 2 ^ 64) := ⟨hs0, by omega⟩
  clear hs0 hs1 hby hto
  refine callsIn_of_wp_marks Try.func32 rfl trivial ?_ rfl
  simp only [Try.ntmps32, List.size_toArray, List.length_cons, List.length_nil, Nat.reduceAdd, Nat.reduceSub, Array.replicate_succ, Array.replicate_zero, List.push_toArray, List.append_toArray, List.nil_append, List.cons_append]
  have HI := hide hI
  have HSM := hide hsm
  clear hI hsm
  gi_wp2_with fail
  refine ⟨trivial, ?_⟩
  refine (words_in Fence.wide (n - 1) trivial rfl _ _ _ _).mono ?_
  rintro e w' ⟨rfl, rfl⟩
  gi_wp2
  have bS := Boxed.new w 50 (.int .u64 0)
  have bN := Boxed.new (w.alloc (.cells #[.int .u64 0] 50)) 72 (.slice a len cap)
  rw [World.size_alloc] at bN
  have hB0 : Below w.heap.size w ((w.alloc (.cells #[.int .u64 0] 50)).alloc (.cells #[.slice a len cap] 72)) := ((Below.refl _ w).alloc (Nat.le_refl _) _).alloc (by simp) _
  have hro : Fence.wide.round = none := rfl
  have hfn : Fence.wide.fn 62 := trivial
  refine wpIn_rangeFunc_ownG hro h1 (gf := 62) (lb := #[.pointer (some ⟨w.heap.size + 1, 0, none⟩)]) rfl hfn (enters_of Try.func62 (by kernel_rfl) rfl)
    (words_stops Fence.wide (n - 1) hfn hro (by omega) (w.heap.size + 1) w.heap.size _ ps HSM.out _ (by simp) (by simp; omega) bN.cell (HI.out.below hB0)) belowK_t (belowK_b (by simp; omega)) (Below.refl _ _) (fun _ => rfl)
    (fun pre W => (W.cell? ⟨w.heap.size, 0, none⟩ = some (.int .u64 (sumW pre)) ∧ W.frozen? ⟨w.heap.size, 0, none⟩ = false) ∧ Below w.heap.size w W)
    (fun _ _ _ => False)
    (OwnFrom.and (Own.from (fun s A B row hs hg hr => ⟨cell_kept hs.1 hg hr, (frozen_kept hs.1 hg hr).trans hs.2⟩) _) (ownFrom_below (Nat.le_refl _) (by simp; omega)))
    (fun _ _ _ _ _ hs _ _ => hs)
    ⟨⟨(bS.alloc _).cell, (bS.alloc _).frozen⟩, hB0⟩
    (fun x => { tmps := #[.slice a len cap, undef, .int .i64 0, .pointer (some ⟨w.heap.size, 0, none⟩), .int .u16 x, .slice a len cap, .func (.func 62) #[] #[.pointer (some ⟨w.heap.size + 1, 0, none⟩)], .int .u16 x, undef, undef, undef, undef, undef, undef, undef], defers := [] }) ?assign ?body ?done ?stop
  case assign =>
    intro l x W K hK
    gi_wp2
    exact hK
  case body =>
    rintro l pre x W ⟨⟨hc, hf⟩, hB⟩ _
    gi_wp2
    exact ⟨(KeepsOthers.setCell _ _ _).from _, (Below.refl w.heap.size W).setCell (p := ⟨w.heap.size, 0, none⟩) (Nat.le_refl _) _, ⟨by rw [sumW_snoc]; exact World.cell?_setCell_same' _ _ _ (by rw [hc]; rfl), by rw [World.frozen?_setCell]; exact hf⟩, hB.setCell (p := ⟨w.heap.size, 0, none⟩) (Nat.le_refl _) _⟩
  case done =>
    rintro D ys W hD rfl ⟨⟨hc, _⟩, hB⟩ hK
    rw [HS.out] at hc
    have hbd := foldI_bd (wsum ps.flatten)
    obtain ⟨hbd0, hbd1⟩ := hbd
    gi_wp2_with fail
    refine ⟨trivial, ?_⟩
    refine (callsIn_wide.2 (fold_any _ HF.out.1 HF.out.2 _)).mono ?_
    rintro e w' ⟨rfl, rfl⟩
    gi_wp2
    refine ⟨by simp, .inl ⟨_, _, rfl, run_takeDeferred hK, ?_⟩⟩
    exact ⟨_, results_tmp rfl _ _ _, rfl, hB.trans (belowK_b (w := w) (Nat.le_refl _) _ D _ _ (by simp at hD; omega) hK rfl rfl)⟩
  case stop =>
    rintro D c pre W _ _ h _
    exact h.elim
theorem Sum_any (pv : Value) (ps : List (List Int)) (hsm : Small ps) (hto : (ps.flatten.length : Int) ≤ 562949953421300) (w : World) (hI : IsP w.heap.size w pv ps) :
    Calls Try.prog 32 #[pv] w fun e W' => e = .returned (.int .i64 (csum ps.flatten)) ∧ Below w.heap.size w W' := by
  obtain ⟨a, cap, vs, rfl, r⟩ := hI
  exact callsIn_wide.1 (Sum_in 3 (Nat.le_refl _) a vs.length cap ps hsm hto w ⟨a, cap, vs, rfl, r⟩)
/-- the parts of a variadic call lie in a new block -/
theorem IsP_new {W : World} (vs : List Value) (ps : List (List Int)) (hl : vs.length = ps.length) (h : ∀ j, j < vs.length → IsB W.heap.size W (vs[j]?.getD undef) (ps[j]?.getD [])) :
    IsP (W.heap.size + 1) (W.alloc (.cells vs.toArray 24)) (.slice (some ⟨W.heap.size, 0, none⟩) vs.length vs.length) ps := by
  refine ⟨_, _, vs, rfl, hl, fun _ => ⟨W.heap.size, 0, rfl, by omega, fun j hj => ?_⟩, fun j hj => ?_⟩
  · rw [Nat.zero_add, cell_of_row _ W.heap.size j vs.toArray 24 (0, 0) (heap_alloc_new W _)]
    simp [hj]
  · exact ((h j hj).below ((Below.refl _ W).alloc (Nat.le_refl _) _)).mono (by omega)
theorem Small_of {ps : List (List Int)} (hl : (ps.length : Int) ≤ 4611686018427387904) (h : ∀ bs ∈ ps, Bytes bs) (hto : (ps.flatten.length : Int) ≤ 562949953421300) : Small ps := by
  refine ⟨hl, fun bs hb => ⟨h bs hb, ?_⟩⟩
  have : bs.length ≤ ps.flatten.length := (List.sublist_flatten_of_mem hb).length_le
  omega
theorem Sum1 (v : Value) (bs : List Int) (w : World) (h : IsB w.heap.size w v bs) (hB : Bytes bs) (hto : (bs.length : Int) ≤ 562949953421300) :
    Calls Try.prog 32 #[.slice (some ⟨w.heap.size, 0, none⟩) 1 1] (w.alloc (.cells #[v] 24)) fun e W' => e = .returned (.int .i64 (csum bs)) ∧ Below w.heap.size w W' := by
  have hf : [bs].flatten = bs := by simp
  have hp : IsP (w.alloc (.cells #[v] 24)).heap.size (w.alloc (.cells #[v] 24)) (.slice (some ⟨w.heap.size, 0, none⟩) 1 1) [bs] := by
    rw [World.size_alloc]
    exact IsP_new [v] [bs] rfl (fun j hj => by
      have : j = 0 := by simp at hj; omega
      subst this
      exact h)
  have := Sum_any _ [bs] (Small_of (by simp) (by simpa using hB) (by rw [hf]; exact hto)) (by rw [hf]; exact hto) _ hp
  rw [hf, World.size_alloc] at this
  exact this.mono fun e W' ⟨he, hb⟩ => ⟨he, (later_alloc w _).trans (hb.mono (by omega))⟩
theorem SumN (vs : List Value) (ps : List (List Int)) (w : World) (hl : vs.length = ps.length) (h : ∀ j, j < vs.length → IsB w.heap.size w (vs[j]?.getD undef) (ps[j]?.getD [])) (hB : ∀ bs ∈ ps, Bytes bs)
    (hn : (ps.length : Int) ≤ 4611686018427387904) (hto : (ps.flatten.length : Int) ≤ 562949953421300) :
    Calls Try.prog 32 #[.slice (some ⟨w.heap.size, 0, none⟩) vs.length vs.length] (w.alloc (.cells vs.toArray 24)) fun e W' => e = .returned (.int .i64 (csum ps.flatten)) ∧ Below w.heap.size w W' := by
  have hp : IsP (w.alloc (.cells vs.toArray 24)).heap.size (w.alloc (.cells vs.toArray 24)) (.slice (some ⟨w.heap.size, 0, none⟩) vs.length vs.length) ps := by
    rw [World.size_alloc]
    exact IsP_new vs ps hl h
  have := Sum_any _ ps (Small_of hn hB hto) hto _ hp
  exact this.mono fun e W' ⟨he, hb⟩ => ⟨he, (later_alloc w _).trans (hb.mono (by simp))⟩
theorem Sum2 (v1 v2 : Value) (b1 b2 : List Int) (w : World) (h1 : IsB w.heap.size w v1 b1) (h2 : IsB w.heap.size w v2 b2) (B1 : Bytes b1) (B2 : Bytes b2) (hto : b1.length + b2.length ≤ 562949953421300) :
    Calls Try.prog 32 #[.slice (some ⟨w.heap.size, 0, none⟩) 2 2] (w.alloc (.cells #[v1, v2] 24)) fun e W' => e = .returned (.int .i64 (csum (b1 ++ b2))) ∧ Below w.heap.size w W' := by
  have hf : [b1, b2].flatten = b1 ++ b2 := by simp
  have := SumN [v1, v2] [b1, b2] w rfl (fun j hj => by
    match j, hj with
    | 0, _ => exact h1
    | 1, _ => exact h2) (by intro bs hb; simp at hb; rcases hb with rfl | rfl <;> assumption) (by simp) (by rw [hf]; simp; omega)
  rw [hf] at this
  exact this
theorem Sum3 (v1 v2 v3 : Value) (b1 b2 b3 : List Int) (w : World) (h1 : IsB w.heap.size w v1 b1) (h2 : IsB w.heap.size w v2 b2) (h3 : IsB w.heap.size w v3 b3) (B1 : Bytes b1) (B2 : Bytes b2) (B3 : Bytes b3)
    (hto : b1.length + b2.length + b3.length ≤ 562949953421300) :
    Calls Try.prog 32 #[.slice (some ⟨w.heap.size, 0, none⟩) 3 3] (w.alloc (.cells #[v1, v2, v3] 24)) fun e W' => e = .returned (.int .i64 (csum (b1 ++ b2 ++ b3))) ∧ Below w.heap.size w W' := by
  have hf : [b1, b2, b3].flatten = b1 ++ b2 ++ b3 := by simp
  have := SumN [v1, v2, v3] [b1, b2, b3] w rfl (fun j hj => by
    match j, hj with
    | 0, _ => exact h1
    | 1, _ => exact h2
    | 2, _ => exact h3) (by intro bs hb; simp at hb; rcases hb with rfl | rfl | rfl <;> assumption) (by simp) (by rw [hf]; simp; omega)
  rw [hf] at this
  exact this
theorem Sum4 (v1 v2 v3 v4 : Value) (b1 b2 b3 b4 : List Int) (w : World) (h1 : IsB w.heap.size w v1 b1) (h2 : IsB w.heap.size w v2 b2) (h3 : IsB w.heap.size w v3 b3) (h4 : IsB w.heap.size w v4 b4) (B1 : Bytes b1) (B2 : Bytes b2) (B3 : Bytes b3) (B4 : Bytes b4)
    (hto : b1.length + b2.length + b3.length + b4.length ≤ 562949953421300) :
    Calls Try.prog 32 #[.slice (some ⟨w.heap.size, 0, none⟩) 4 4] (w.alloc (.cells #[v1, v2, v3, v4] 24)) fun e W' => e = .returned (.int .i64 (csum (b1 ++ b2 ++ b3 ++ b4))) ∧ Below w.heap.size w W' := by
  have hf : [b1, b2, b3, b4].flatten = b1 ++ b2 ++ b3 ++ b4 := by simp
  have := SumN [v1, v2, v3, v4] [b1, b2, b3, b4] w rfl (fun j hj => by
    match j, hj with
    | 0, _ => exact h1
    | 1, _ => exact h2
    | 2, _ => exact h3
    | 3, _ => exact h4) (by intro bs hb; simp at hb; rcases hb with rfl | rfl | rfl | rfl <;> assumption) (by simp) (by rw [hf]; simp; omega)
  rw [hf] at this
  exact this
theorem put16_bytes (n : Int) : Bytes (put16 n) := by intro x hx; simp [put16] at hx; omega
theorem wsum_put16 (n : Int) (h0 : 0 ≤ n) (h1 : n ≤ 65535) : wsum (put16 n) = n := by
  simp only [put16, wsum_pair]; omega
theorem put16_len (n : Int) : (put16 n).length = 2 := rfl
/-- a text's sum and its checksum: a positive number of times 65535 -/
theorem whole_mod (a : List Int) (ha : Bytes a) : (wsum a + csum a) % 65535 = 0 ∧ 0 < wsum a + csum a := by
  have h0 := wsum_nonneg a ha
  have h1 := foldI_mod (wsum a)
  have h2 := foldI_bd (wsum a)
  have h3 : foldI (wsum a) ≤ wsum a := by unfold foldI; split <;> omega
  unfold csum
  omega
theorem fold_whole (s : Int) (h : s % 65535 = 0) (h0 : 0 < s) : foldI s = 65535 := by
  unfold foldI; rw [if_neg (by omega)]; omega
theorem wsum_set : ∀ (p : List Int) (k : Nat) (y : Int), k < p.length → wsum (p.set k y) = wsum p + (y - p[k]?.getD 0) * (if k % 2 = 0 then 256 else 1)
  | [], k, y, h => by simp at h
  | [a], k, y, h => by
    have : k = 0 := by simp at h; omega
    subst this
    simp [wsum_one]; omega
  | a :: b :: r, 0, y, _ => by simp [wsum_two]; omega
  | a :: b :: r, 1, y, _ => by simp [wsum_two]; omega
  | a :: b :: r, k + 2, y, h => by
    have := wsum_set r k y (by simp at h; omega)
    simp only [List.set_cons_succ, wsum_two, this, List.getElem?_cons_succ]
    have e : (k + 2) % 2 = k % 2 := by omega
    rw [e]
    omega
/-- a store into a block of the call's own -/
theorem own_store {w W : World} {B g n c : Nat} {L : List Int} (hb : Below w.heap.size w W) (hg : w.heap.size ≤ g) (G : Gro B W (.slice (some ⟨g, 0, none⟩) n c) L) (hn : n = L.length) (k : Nat) (v : Int) :
    ∃ W', W.setCell ⟨g, k, none⟩ (.int .u8 v) = W' ∧ Below w.heap.size w W' ∧ Gro B W' (.slice (some ⟨g, 0, none⟩) n c) (L.set k v) ∧ W'.heap.size = W.heap.size :=
  ⟨_, rfl, hb.setCell (p := ⟨g, k, none⟩) hg _, G.store hn k v, by simp⟩
/-- a cell of a block of the call's own -/
theorem own_cell {W : World} {B g n c : Nat} {L : List Int} (G : Gro B W (.slice (some ⟨g, 0, none⟩) n c) L) (k : Nat) (hk : k < L.length) : W.cell? ⟨g, k, none⟩ = some (.int .u8 (L[k]?.getD 0)) ∧ W.frozen? ⟨g, k, none⟩ = false := by
  obtain ⟨g', e, _, hc, hf⟩ := G.block (by omega)
  cases e
  exact ⟨hc k hk, hf k⟩
/-- a store elsewhere -/
theorem Gro.other {B : Nat} {W : World} {g n c : Nat} {bs : List Int} (h : Gro B W (.slice (some ⟨g, 0, none⟩) n c) bs) (h' k : Nat) (u : Value) (hne : g ≠ h') : Gro B (W.setCell ⟨h', k, none⟩ u) (.slice (some ⟨g, 0, none⟩) n c) bs := by
  obtain ⟨h1, h2 | ⟨g', cap, cur, e, hg, hh, r⟩⟩ := h
  · exact ⟨h1, .inl h2⟩
  · cases e
    exact ⟨h1, .inr ⟨g, c, cur, rfl, hg, by rw [Below.heap_setCell W ⟨h', k, none⟩ u g hne]; exact hh, r⟩⟩

theorem append_runB {B : Nat} {W : World} {v tv : Value} {xs ys : List Int} (hx : Gro B W v xs) (hy : IsB W.heap.size W tv ys) (hB : B ≤ W.heap.size) (hl : xs.length + ys.length ≤ 140737488355328) :
    ∃ v' w', (Builtin.append_ #[24, 24] 24 #[v, tv]).run Try.prog W = .ok v' w' ∧ Gro B w' v' (xs ++ ys) ∧ Below B W w' := by
  obtain ⟨i0, hi, hz0, hz1, hz2⟩ := info_parts info_u8
  obtain ⟨a, cap, rfl, hlc, hn, hc⟩ := hy
  have hr : ∀ k, v.ownBlock = some k → B ≤ k := fun k hk => (hx.lt k hk).1
  cases a with
  | none =>
    have h0 := hn rfl
    subst h0
    have : ys = [] := List.eq_nil_of_length_eq_zero (by omega)
    subst this
    have hrun := run_append_owned_none (P := Try.prog) W B 24 24 5 i0 1 Try.underlying24 hi v xs.length _ hx
    exact ⟨v, W, hrun, by simpa using hx, Below.refl _ _⟩
  | some ad =>
    obtain ⟨v', w', hrun, ho, hg, _⟩ := run_append_own (P := Try.prog) W B 24 24 5 i0 (.int .u8 0) 1 1 Try.underlying24 hi hz0 hz1 hz2 rfl (by decide) v xs.length _ hx ad ys.length cap (ys.map (Value.int .u8)) (by simp)
      (fun j u hu => by
        have hj : j < ys.length := by have := (List.getElem?_eq_some_iff.1 hu).1; simpa using this
        obtain ⟨b, off, e, _, hcs⟩ := hc (by omega)
        cases e
        rw [Addr.add_lit, hcs j hj]
        simp only [List.getElem?_map, List.getElem?_eq_getElem hj, Option.map_some, Option.some.injEq] at hu
        simp [List.getElem?_eq_getElem hj, hu]) (ints_oneCell _ _) (by unfold maxLen; omega) (by omega) hB
    refine ⟨v', w', hrun, ?_, (Below.refl B W).grown hg hB hr⟩
    have e : (xs ++ ys).length = xs.length + ys.length := by simp
    unfold Gro
    rw [e, List.map_append]
    exact ho

/-- 'append' as a law for the walk -/
theorem wpList_growB {w : World} {ops : Array Oper} {rest : List Oper} {o : Oper} {a : Act} {Q : Exit → Act → World → Prop} (hg : o.guard = none) (s x : Operand)
    (hop : o.op = Op.call { callee := Callee.builtin Builtin.append, args := #[s, x], argTypes := #[24, 24] }) (hty : o.type = 24)
    (B : Nat) (v tv : Value) (xs ys : List Int) (hs : a.eval s = v) (hx : a.eval x = tv) (gx : Gro B w v xs) (iy : IsB w.heap.size w tv ys) (hB : B ≤ w.heap.size) (hl : xs.length + ys.length ≤ 140737488355328) (L : List Int) (hL : xs ++ ys = L)
    (hK : ∀ (a' : Option Addr) (cap' : Nat) (w' : World), L.length ≤ cap' → Gro B w' (.slice a' L.length cap') L → Below B w w' → wpList Try.prog ops Q rest (a.put o.dst (.slice a' L.length cap')) w') :
    wpList Try.prog ops Q (o :: rest) a w := by
  subst hL
  refine wpList_plain hg fun K hK' => ?_
  obtain ⟨v', w', hrun, g', b'⟩ := append_runB gx iy hB hl
  obtain ⟨a', cap', rfl, hle⟩ := g'.isB.shape
  unfold Oper.wp
  simp only [execOp, hop, hty]
  simp [resolve, invoke, builtin, hs, hx, hrun, Result.andThen, -List.length_append]
  exact hK' _ _ (hK a' cap' w' hle g' b')


end Go.Proofs.Ytggadchhkenipaa
