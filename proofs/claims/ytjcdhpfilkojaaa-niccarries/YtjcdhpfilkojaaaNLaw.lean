/-
  NicResets, NicOff: their walks.
-/
import Derived.Test.YtjcdhpfilkojaaaNAwake
namespace Go.Proofs.Ytjcdhpfilkojaaa
open Go.RowKit

/-- THE SLICE VALUE v HOLDS THE CALLS l, all of it below n₀ -/
def IsO (n₀ : Nat) (W : World) (v : Value) (l : List OpV) : Prop :=
  ∃ a cap, v = .slice a l.length cap ∧ (0 < l.length → ∃ g off, a = some ⟨g, off, none⟩ ∧ g < n₀ ∧ ∀ i o, l[i]? = some o →
      W.cell? ⟨g, off + i * 5, none⟩ = some (.int .i64 o.kind) ∧ W.cell? ⟨g, off + i * 5 + 1, none⟩ = some (.int .i64 o.n) ∧ W.cell? ⟨g, off + i * 5 + 2, none⟩ = some (.int .i64 o.v) ∧ W.cell? ⟨g, off + i * 5 + 3, none⟩ = some o.bv ∧ W.cell? ⟨g, off + i * 5 + 4, none⟩ = some (.bool o.yes)) ∧
    ∀ o ∈ l, IsF (fun g => n₀ ≤ g) W o.bv o.bs ∧ o.bs.length ≤ 140737488351232

theorem IsF.below {n₀ : Nat} {W W' : World} {v : Value} {bs : List Int} (h : IsF (fun g => n₀ ≤ g) W v bs) (hb : Below n₀ W W') : IsF (fun g => n₀ ≤ g) W' v bs := by
  obtain ⟨a, cap, e, hl, hn, hc⟩ := h
  refine ⟨a, cap, e, hl, hn, fun h0 => ?_⟩
  obtain ⟨b, off, e1, hb1, ha, hcs⟩ := hc h0
  exact ⟨b, off, e1, Nat.lt_of_lt_of_le hb1 hb.size, ha, fun j hj => (hb.cell (p := ⟨b, off + j, none⟩) (by simp at ha; exact ha)).trans (hcs j hj)⟩
theorem IsO.below {n₀ : Nat} {W W' : World} {v : Value} {l : List OpV} (h : IsO n₀ W v l) (hb : Below n₀ W W') : IsO n₀ W' v l := by
  obtain ⟨a, cap, e, hc, hf⟩ := h
  refine ⟨a, cap, e, fun h0 => ?_, fun o ho => ⟨(hf o ho).1.below hb, (hf o ho).2⟩⟩
  obtain ⟨g, off, e1, hg, hcs⟩ := hc h0
  have key : ∀ k, W'.cell? ⟨g, k, none⟩ = W.cell? ⟨g, k, none⟩ := fun k => hb.cell (p := ⟨g, k, none⟩) hg
  refine ⟨g, off, e1, hg, fun i o hi => ?_⟩
  obtain ⟨q0, q1, q2, q3, q4⟩ := hcs i o hi
  exact ⟨(key _).trans q0, (key _).trans q1, (key _).trans q2, (key _).trans q3, (key _).trans q4⟩

/-- a device that was reset, as it is read -/
structure Fresh (link : Int) (D : Dev) : Prop where
  ok : D.Ok
  reg : ∀ k, k < 8 → D.r k = if k = 1 then link else 0
  held : ∀ i, D.held i = false
theorem Fresh.reset {D : Dev} (h : D.Ok) : Fresh (D.r 1) D.reset := by
  refine ⟨h.reset, fun k _ => ?_, fun i => rfl⟩
  by_cases e : k = 1
  · subst e; simp [Dev.reset, upd]
  · simp [Dev.reset, upd, e]
theorem Fresh.rd {link : Int} {D : Dev} (h : Fresh link D) (reg : Int) : Fresh link (D.rdD reg) := by
  unfold Dev.rdD; split
  · refine ⟨h.ok.setr 6 0 (by omega) (by omega) (by omega) (by omega), fun k hk => ?_, h.held⟩
    simp only [upd]; split
    · rw [if_neg (by omega)]
    · exact h.reg k hk
  · exact h
theorem Fresh.rdV {link : Int} {D : Dev} (h : Fresh link D) (k : Nat) (hk : k < 8) : D.rdV k = if k = 1 then link else 0 := by
  unfold Dev.rdV; rw [if_pos (by omega), Int.toNat_natCast]; exact h.reg k hk

set_option maxRecDepth 100000 in
set_option maxHeartbeats 4000000 in
theorem Resets_walk (v : Value) (l : List OpV) (W : World) (hI : IsO W.heap.size W v l) (hl : l.length ≤ 2513169434843) :
    Calls Try.prog 5 #[v] W fun e W' => e = .returned (.bool true) ∧ Below W.heap.size W W' := by
  have HI := hide hI
  obtain ⟨a, cap, rfl, _, _⟩ := hI
  go_enter Try.func5, Try.ntmps5
  go_wp2_with fail
  refine (awake_any W).mono ?_
  rintro e w1 ⟨rfl, hb1⟩
  go_wp2_with fail
  refine (New_any w1).mono ?_
  rintro e w2 ⟨rfl, hN, hb2, hs2⟩
  obtain ⟨g, hg⟩ : ∃ g, g = w1.heap.size := ⟨_, rfl⟩
  have d2 := hN (Only g) hg.symm
  have hgW : W.heap.size ≤ g := by rw [hg]; exact hb1.size
  have b2 := hb1.trans (hb2.mono hb1.size)
  rw [← hg] at d2 ⊢
  have D2 := hide d2
  have B2 := hide b2
  have HGW := hide hgW
  clear hN hb2 hs2 hg d2 b2 hb1 hgW
  go_wp2
  go_loopw [5] (fun vi wr => ∃ (i : Nat) (D : Dev), vi = .int .i64 i ∧ i ≤ l.length ∧ DevAt LN (Only g) wr g D ∧ D.Ok ∧ Below W.heap.size W wr) (fun vi _ => l.length - (intOf vi).toNat)
  case atStart => exact ⟨0, Dev.new, rfl, Nat.zero_le _, D2.out, Dev.Ok.new, B2.out⟩
  case round =>
    obtain ⟨i, D, rfl, hi, hd, hok, hB⟩ := hrel
    by_cases hlt : i < l.length
    · obtain ⟨a', cap', e', hc, hf⟩ := HI.out.below hB
      simp only [Value.slice.injEq] at e'
      obtain ⟨rfl, _, rfl⟩ := e'
      obtain ⟨gl, off, rfl, hgl, hcs⟩ := hc (by omega)
      obtain ⟨o, ho⟩ : ∃ o, l[i]? = some o := ⟨l[i], List.getElem?_eq_getElem hlt⟩
      obtain ⟨q0, q1, q2, q3, q4⟩ := hcs i o ho
      obtain ⟨hbv, hbl⟩ := hf o (List.mem_of_getElem? ho)
      have P := hide (plays_any hd hok (fun x e => by have : x = g := e; have := hd.lt; omega) o.kind o.n o.v o.bv o.bs o.yes hbv (by omega))
      have HB := hide hB
      clear hcs hf hc ho hbv hbl hd hok hB hgl
      obtain ⟨kd, on, ov, obv, obs, oy⟩ := o
      simp only at q0 q1 q2 q3 q4 P
      go_wp2_with fail
      refine (P.out).mono ?_
      rintro e w3 ⟨rfl, ⟨D3, d3, ok3⟩, b3⟩
      have B3 := hide (HB.out.trans (b3.below HB.out.size (fun x hx e => by have := HGW.out; have : x = g := e; omega)))
      have D3' := hide d3
      have O3 := hide ok3
      clear d3 ok3 b3 P HB
      go_wp2
      go_roundw
      case rel => exact ⟨i + 1, D3, by go_num, by omega, D3'.out, O3.out, B3.out⟩
      case measure => simp [intOf]; omega
    · obtain rfl : i = l.length := by omega
      have D3 := hide hd
      have O3 := hide hok
      have B3 := hide hB
      have R := Read_any hd 1
      have W2 := fun w' (h : DevAt LN (Only g) w' g D) => Write_any h hok 0 2
      simp only [show D.rdV 1 = D.r 1 from rfl, show rdE 1 = 0 from rfl, show D.rdD 1 = D from rfl] at R
      simp only [show wrE 0 2 = 0 from by decide, show D.wrD 0 2 = D.reset from rfl] at W2
      have HR := hide R
      have HW2 := hide W2
      have HF := hide (Fresh.reset hok)
      clear R W2 hd hok hB
      obtain ⟨link, hlink⟩ : ∃ x, x = D.r 1 := ⟨_, rfl⟩
      rw [← hlink] at HR HF
      clear hlink
      go_wp2_with fail
      refine (HR.out).mono ?_
      rintro e w3 ⟨rfl, d3, b3⟩
      have D4 := hide d3
      have B4 := hide (B3.out.trans (b3.below B3.out.size (fun x hx e => by have := HGW.out; have : x = g := e; omega)))
      clear d3 b3 HR D3 B3
      go_wp2_with fail
      refine (HW2.out _ D4.out).mono ?_
      rintro e w4 ⟨rfl, d4, b4⟩
      have D5 := hide d4
      have B5 := hide (B4.out.trans (b4.below B4.out.size (fun x hx e => by have := HGW.out; have : x = g := e; omega)))
      clear d4 b4 HW2 D4 B4
      go_wp2
      go_loopw [9] (fun vi wr => ∃ (k : Nat) (D : Dev), vi = .int .i64 k ∧ k ≤ 8 ∧ DevAt LN (Only g) wr g D ∧ Fresh link D ∧ Below W.heap.size W wr) (fun vi _ => 8 - (intOf vi).toNat)
      case atStart => exact ⟨0, _, rfl, by omega, D5.out, HF.out, B5.out⟩
      case round =>
        obtain ⟨k, D, rfl, hk, hd, hF, hB⟩ := hrel
        by_cases hk8 : k < 8
        · have R := Read_any hd (k : Int)
          rw [hF.rdV k hk8, show rdE (k : Int) = 0 from by unfold rdE; rw [if_pos (by omega)]] at R
          have HR := hide R
          have F2 := hide (hF.rd (k : Int))
          have HB := hide hB
          clear R hd hF hB
          by_cases e1 : k = 1
          · subst e1
            rw [if_pos rfl] at HR
            go_wp2_with fail
            refine (HR.out).mono ?_
            rintro e w5 ⟨rfl, d5, b5⟩
            have D6 := hide d5
            have B6 := hide (HB.out.trans (b5.below HB.out.size (fun x hx e => by have := HGW.out; have : x = g := e; omega)))
            clear d5 b5 HR HB
            go_wp2
            go_roundw
            case rel => exact ⟨2, _, by go_num, by omega, D6.out, F2.out, B6.out⟩
            case measure => simp [intOf]
          · rw [if_neg e1] at HR
            have q1 : ((k : Int) == 1) = false := beq_no (by omega)
            have q2 : ((k : Int) != 1) = true := by simp; omega
            clear e1
            go_wp2_with fail
            refine (HR.out).mono ?_
            rintro e w5 ⟨rfl, d5, b5⟩
            have D6 := hide d5
            have B6 := hide (HB.out.trans (b5.below HB.out.size (fun x hx e => by have := HGW.out; have : x = g := e; omega)))
            clear d5 b5 HR HB
            go_wp2
            go_roundw
            case rel => exact ⟨k + 1, _, by go_num, by omega, D6.out, F2.out, B6.out⟩
            case measure => simp [intOf]; omega
        · rw [show ((k : Nat) : Int) = 8 from by omega]
          clear hk8 hk
          have D6 := hide hd
          have F6 := hide hF
          have B6 := hide hB
          clear hd hF hB
          go_wp2
          go_loopw [12] (fun vi wr => ∃ (k : Nat), vi = .int .i64 k ∧ k ≤ 16 ∧ DevAt LN (Only g) wr g D ∧ Below W.heap.size W wr) (fun vi _ => 16 - (intOf vi).toNat)
          case atStart => exact ⟨0, rfl, by omega, D6.out, B6.out⟩
          case round =>
            obtain ⟨j, rfl, hj, hd, hB⟩ := hrel
            by_cases hj16 : j < 16
            · have R := Rx_any hd F6.out.ok (j : Int)
              have e1 : D.rxE (j : Int) = 7 := by unfold Dev.rxE; rw [if_pos (by simp [place]; omega), Int.toNat_natCast, if_neg (by rw [F6.out.held]; simp)]
              rw [e1, show D.rxF (j : Int) = [] from by unfold Dev.rxF; rw [if_neg (by rw [e1]; omega)], show D.rxB (j : Int) = false from by unfold Dev.rxB; rw [if_neg (by rw [e1]; omega)]] at R
              have HR := hide R
              have HD := hide hd
              have HB := hide hB
              clear R e1 hd hB
              go_wp2_with fail
              refine (HR.out).mono ?_
              rintro e w5 ⟨a5, c5, rfl, _, b5⟩
              have D7 := hide (HD.out.later b5)
              have B7 := hide (HB.out.trans (b5.mono HB.out.size))
              clear b5 HR HB HD
              go_wp2
              go_roundw
              case rel => exact ⟨j + 1, by go_num, by omega, D7.out, B7.out⟩
              case measure => simp [intOf]; omega
            · obtain rfl : j = 16 := by omega
              have O := Oldest_any hd F6.out.ok
              have e45 : D.r 4 = D.r 5 := by rw [F6.out.reg 4 (by omega), F6.out.reg 5 (by omega)]; rfl
              rw [show D.olT = 0 from by unfold Dev.olT; rw [if_pos e45], show D.olB = false from by unfold Dev.olB; simp [e45]] at O
              have HO := hide O
              have HB := hide hB
              clear O e45 hd hB
              go_wp2_with fail
              refine (HO.out).mono ?_
              rintro e w5 ⟨rfl, rfl⟩
              clear HO
              go_wp2
              go_ret
              exact ⟨rfl, HB.out⟩

end Go.Proofs.Ytjcdhpfilkojaaa
