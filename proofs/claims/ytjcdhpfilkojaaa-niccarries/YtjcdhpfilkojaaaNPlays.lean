/-
  A call of a device (plays).
-/
import Derived.Test.YtjcdhpfilkojaaaNOk
namespace Go.Proofs.Ytjcdhpfilkojaaa
open Go.RowKit

/-- a call, as it was handed in -/
structure OpV where
  kind : Int
  n : Int
  v : Int
  bv : Value
  bs : List Int
  yes : Bool
def OpV.val (o : OpV) : Value := .agg #[.int .i64 o.kind, .int .i64 o.n, .int .i64 o.v, o.bv, .bool o.yes]

def Plays (A : Nat → Prop) (b : Nat) (w : World) (e : Ending) (w' : World) : Prop := e = .returned (.tuple #[]) ∧ (∃ D', DevAt LN A w' b D' ∧ D'.Ok) ∧ But (Only b) w w'

set_option maxRecDepth 100000 in
set_option maxHeartbeats 4000000 in
theorem plays_any {A A' : Nat → Prop} {b : Nat} {D : Dev} {w : World} (h : DevAt LN A w b D) (ok : D.Ok) (hA : ∀ g, A g → g < w.heap.size) (kind n v : Int) (bv : Value) (bs : List Int) (yes : Bool) (hv : IsF A' w bv bs) (hl : bs.length ≤ 140737488355328) :
    Calls Try.prog 21 #[.pointer (some ⟨b, 0, none⟩), .agg #[.int .i64 kind, .int .i64 n, .int .i64 v, bv, .bool yes]] w (Plays A b w) := by
  obtain ⟨a, cap, rfl, _, _⟩ := hv.shape
  have hb1 : ∀ o : Obj, Below w.heap.size w (w.alloc o) := fun o => (Below.refl _ _).alloc (Nat.le_refl _) o
  have HB1 := hide hb1
  have H1 : Hid (∀ o : Obj, DevAt LN A (w.alloc o) b D) := fun o => h.later (hb1 o)
  have V1 : Hid (∀ o : Obj, IsF A' (w.alloc o) (.slice a bs.length cap) bs) := fun o => hv.later (hb1 o)
  have A1 : Hid (∀ o : Obj, ∀ g, A g → g < (w.alloc o).heap.size) := fun o g hg => Nat.lt_of_lt_of_le (hA g hg) (by simp)
  have OK := hide ok
  clear h hv hA hb1 ok
  by_cases k0 : kind = 0
  · subst k0
    go_enter Try.func21, Try.ntmps21
    go_wp2_with fail
    refine (Read_any (H1.out _) n).mono ?_
    rintro e w2 ⟨rfl, hd, hb⟩
    have HD := hide hd
    have HB := hide hb
    clear hd hb
    go_wp2
    go_end0
    exact ⟨rfl, ⟨_, HD.out, OK.out.rd _⟩, (But.of_below (HB1.out _)).trans HB.out⟩
  have q0 : (kind == 0) = false := beq_no k0
  by_cases k1 : kind = 1
  · subst k1
    clear k0 q0
    go_enter Try.func21, Try.ntmps21
    go_wp2_with fail
    refine (Write_any (H1.out _) OK.out n v).mono ?_
    rintro e w2 ⟨rfl, hd, hb⟩
    have HD := hide hd
    have HB := hide hb
    clear hd hb
    go_wp2
    go_end0
    exact ⟨rfl, ⟨_, HD.out, OK.out.wr _ _⟩, (But.of_below (HB1.out _)).trans HB.out⟩
  have q1 : (kind == 1) = false := beq_no k1
  by_cases k2 : kind = 2
  · subst k2
    clear k0 q0 k1 q1
    go_enter Try.func21, Try.ntmps21
    go_wp2_with fail
    refine (SetTx_any (H1.out _) OK.out (A1.out _) n _ bs (V1.out _) hl).mono ?_
    rintro e w2 ⟨rfl, hd, hb⟩
    have HD := hide hd
    have HB := hide hb
    clear hd hb
    go_wp2
    go_end0
    exact ⟨rfl, ⟨_, HD.out, OK.out.st _ _⟩, (But.of_below (HB1.out _)).trans HB.out⟩
  have q2 : (kind == 2) = false := beq_no k2
  by_cases k3 : kind = 3
  · subst k3
    clear k0 q0 k1 q1 k2 q2
    go_enter Try.func21, Try.ntmps21
    go_wp2_with fail
    refine (SetRx_any (H1.out _) OK.out n v).mono ?_
    rintro e w2 ⟨rfl, hd, hb⟩
    have HD := hide hd
    have HB := hide hb
    clear hd hb
    go_wp2
    go_end0
    exact ⟨rfl, ⟨_, HD.out, OK.out.sr _ _⟩, (But.of_below (HB1.out _)).trans HB.out⟩
  have q3 : (kind == 3) = false := beq_no k3
  by_cases k5 : kind = 5
  · subst k5
    clear k0 q0 k1 q1 k2 q2 k3 q3
    go_enter Try.func21, Try.ntmps21
    go_wp2_with fail
    refine (Take_any (H1.out _) OK.out).mono ?_
    rintro e w2 ⟨a', cap', rfl, _, hd, hb⟩
    have HD := hide hd
    have HB := hide hb
    clear hd hb
    go_wp2
    go_end0
    exact ⟨rfl, ⟨_, HD.out, OK.out.tk⟩, (But.of_below (HB1.out _)).trans HB.out⟩
  have q5 : (kind == 5) = false := beq_no k5
  by_cases k6 : kind = 6
  · subst k6
    clear k0 q0 k1 q1 k2 q2 k3 q3 k5 q5
    go_enter Try.func21, Try.ntmps21
    go_wp2_with fail
    refine (Give_any (H1.out _) OK.out (A1.out _) _ bs yes (V1.out _) hl).mono ?_
    rintro e w2 ⟨rfl, hd, hb⟩
    have HD := hide hd
    have HB := hide hb
    clear hd hb
    go_wp2
    go_end0
    exact ⟨rfl, ⟨_, HD.out, OK.out.gv _ _⟩, (But.of_below (HB1.out _)).trans HB.out⟩
  have q6 : (kind == 6) = false := beq_no k6
  by_cases k7 : kind = 7
  · subst k7
    clear k0 q0 k1 q1 k2 q2 k3 q3 k5 q5 k6 q6
    go_enter Try.func21, Try.ntmps21
    go_wp2_with fail
    refine (Link_any (H1.out _) OK.out yes).mono ?_
    rintro e w2 ⟨rfl, hd, hb⟩
    have HD := hide hd
    have HB := hide hb
    clear hd hb
    go_wp2
    go_end0
    exact ⟨rfl, ⟨_, HD.out, OK.out.lk _⟩, (But.of_below (HB1.out _)).trans HB.out⟩
  have q7 : (kind == 7) = false := beq_no k7
  by_cases k8 : kind = 8
  · subst k8
    clear k0 q0 k1 q1 k2 q2 k3 q3 k5 q5 k6 q6 k7 q7
    go_enter Try.func21, Try.ntmps21
    go_wp2_with fail
    refine (Tick_any (H1.out _)).mono ?_
    rintro e w2 ⟨rfl, hd, hb⟩
    have HD := hide hd
    have HB := hide hb
    clear hd hb
    go_wp2
    go_end0
    exact ⟨rfl, ⟨_, HD.out, OK.out.tick⟩, (But.of_below (HB1.out _)).trans HB.out⟩
  have q8 : (kind == 8) = false := beq_no k8
  clear k0 k1 k2 k3 k5 k6 k7 k8
  go_enter Try.func21, Try.ntmps21
  go_wp2
  go_end0
  exact ⟨rfl, ⟨_, H1.out _, OK.out⟩, But.of_below (HB1.out _)⟩

end Go.Proofs.Ytjcdhpfilkojaaa
