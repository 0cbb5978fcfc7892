
/-
  The document's Encode.
-/
import Derived.Test.YtipebfaappangaaE14
import Derived.Test.YtipebfaappangaaE3
namespace Go.Proofs.Ytipebfaappangaa
open Go.RowKit

theorem mL_take (m : M6) (k : Nat) (h : k < 6) : (mL m).take (k + 1) = (mL m).take k ++ [m.at k] := by
  rcases lt6 h with rfl | rfl | rfl | rfl | rfl | rfl <;> rfl

/-- is the Type one that may be; are Vlan and Prio? -/
def tyB (f : Fr) : Bool := wiB f.ty 1536 65535 && !decide (f.ty = 33024)
def vpB (f : Fr) : Bool := wiB f.vlan 0 (if f.tag = true then 4095 else 0) && wiB f.prio 0 (if f.tag = true then 7 else 0)
theorem mb_two (f : Fr) : mbB f = (tyB f && vpB f) := by unfold mbB tyB vpB; rw [Bool.and_assoc]

set_option maxRecDepth 100000 in
set_option maxHeartbeats 8000000 in
theorem rEncode_no {A : Nat → Prop} {w : World} {v : Value} {f : Fr} {bs : List Int} (hv : IsF A w v bs) (hno : enE f bs.length ≠ 0) : Calls Try.prog 10 #[f.val, v] w (EnEnd w f bs) := by
  obtain ⟨a, cap, rfl, hcap, -⟩ := hv.shape
  have F0 := hide (FrAt.new w f 25)
  have B0 := hide (later_alloc w (.cells f.cells 25))
  have E := hide (show enE f bs.length = if (tyB f && vpB f) = false then 1 else if 256 < bs.length then 2 else 0 from by unfold enE; rw [mb_two])
  have NO := hide hno
  clear hno
  obtain ⟨n, hn⟩ : ∃ n, n = bs.length := ⟨_, rfl⟩
  rw [← hn] at NO E ⊢
  have HN := hide hn
  clear hv hn hcap
  obtain ⟨t, ht⟩ : ∃ t, f.tag = t := ⟨_, rfl⟩
  obtain ⟨y, hy⟩ : ∃ y, f.ty = y := ⟨_, rfl⟩
  obtain ⟨vl, hvl⟩ : ∃ vl, f.vlan = vl := ⟨_, rfl⟩
  obtain ⟨pr, hpr⟩ : ∃ pr, f.prio = pr := ⟨_, rfl⟩
  have TB : Hid (tyB f = (wiB y 1536 65535 && !decide (y = 33024))) := by show _ = _; unfold tyB; rw [hy]
  have VB : Hid (vpB f = (wiB vl 0 (if t = true then 4095 else 0) && wiB pr 0 (if t = true then 7 else 0))) := by show _ = _; unfold vpB; rw [hvl, hpr, ht]
  obtain ⟨tb, htb⟩ : ∃ tb, tyB f = tb := ⟨_, rfl⟩
  obtain ⟨vb, hvb⟩ : ∃ vb, vpB f = vb := ⟨_, rfl⟩
  rw [htb] at TB E
  rw [hvb] at VB E
  have c12 := F0.out.c12
  have c13 := F0.out.c13
  have c14 := F0.out.c14
  have c15 := F0.out.c15
  rw [ht] at c12
  rw [hvl] at c13
  rw [hpr] at c14
  rw [hy] at c15
  clear ht hy hvl hpr htb hvb
  simp only [Fr.val]
  go_enter Try.func10, Try.ntmps10
  go_upto_region 1 with fail
  obtain ⟨W1, e1⟩ : ∃ W1, w.alloc (.cells f.cells 25) = W1 := ⟨_, rfl⟩
  rw [e1] at F0 B0 c12 c13 c14 c15 ⊢
  clear e1
  go_cut [21] (fun c wc => c = .bool (!tb) ∧ W1 = wc)
  case first =>
    by_cases h1 : y < 1536
    · go_wp2
      go_meet
      case rel => exact ⟨by rw [TB.out]; simp [wiB]; omega, rfl⟩
    · by_cases h2 : 65535 < y
      · go_wp2
        go_meet
        case rel => exact ⟨by rw [TB.out]; simp [wiB]; omega, rfl⟩
      · by_cases h3 : y = 33024
        · have h4 : (y == 33024) = true := by rw [beq_dec]; exact decide_eq_true h3
          go_wp2
          go_meet
          case rel => exact ⟨by rw [TB.out]; simp [h3], rfl⟩
        · have h4 : (y == 33024) = false := by rw [beq_dec]; exact decide_eq_false h3
          go_wp2
          go_meet
          case rel => exact ⟨by rw [TB.out]; simp [wiB, h3]; omega, rfl⟩
  case rest =>
    obtain ⟨rfl, hw⟩ := hcut
    subst hw
    cases tb
    · go_wp2
      go_ret2
      exact EnEnd.no 1 (by decide) (by rw [← HN.out, E.out]; simp) B0.out
    · go_upto_region 3 with fail
      go_cut [58] (fun c wc => c = .bool (!vb) ∧ W1 = wc)
      case first =>
        cases t
        · by_cases h1 : vl = 0
          · have h2 : (vl != 0) = false := by simp [h1]
            by_cases h3 : pr = 0
            · have h4 : (pr != 0) = false := by simp [h3]
              go_wp2
              go_meet
              case rel => exact ⟨by rw [VB.out]; simp [wiB, h1, h3], rfl⟩
            · have h4 : (pr != 0) = true := by simp [h3]
              go_wp2
              go_meet
              case rel => exact ⟨by rw [VB.out]; simp [wiB]; omega, rfl⟩
          · have h2 : (vl != 0) = true := by simp [h1]
            go_wp2
            go_meet
            case rel => exact ⟨by rw [VB.out]; simp [wiB]; omega, rfl⟩
        · by_cases h1 : vl < 0
          · go_wp2
            go_meet
            case rel => exact ⟨by rw [VB.out]; simp [wiB]; omega, rfl⟩
          · by_cases h2 : 4095 < vl
            · go_wp2
              go_meet
              case rel => exact ⟨by rw [VB.out]; simp [wiB]; omega, rfl⟩
            · by_cases h3 : pr < 0
              · go_wp2
                go_meet
                case rel => exact ⟨by rw [VB.out]; simp [wiB]; omega, rfl⟩
              · by_cases h4 : 7 < pr
                · go_wp2
                  go_meet
                  case rel => exact ⟨by rw [VB.out]; simp [wiB]; omega, rfl⟩
                · go_wp2
                  go_meet
                  case rel => exact ⟨by rw [VB.out]; simp [wiB]; omega, rfl⟩
      case rest =>
        obtain ⟨rfl, hw⟩ := hcut
        subst hw
        cases vb
        · go_wp2
          go_ret2
          exact EnEnd.no 1 (by decide) (by rw [← HN.out, E.out]; simp) B0.out
        · by_cases hl : 256 < n
          · have l1 : (256 : Int) < (n : Int) := by omega
            go_wp2
            go_ret2
            exact EnEnd.no 2 (by decide) (by rw [← HN.out, E.out]; simp [hl]) B0.out
          · exact absurd (by rw [E.out]; simp [hl]) NO.out

end Go.Proofs.Ytipebfaappangaa
