
/-
  A law's own cache: what each call leaves, from n on; lengths alone.
-/
import Derived.Test.YtjlifckkmkimcaaA31
namespace Go.Proofs.Ytjlifckkmkimcaa
open Go.RowKit Go.Shelf

/-- the law's cache at c knows L; nothing below n has turned since w0 -/
def Lw (n : Nat) (w0 W : World) (c : Nat) (L : List Nb) : Prop := ∃ ρ, Ca ρ 1 W c hostM hostI L ∧ Fit ρ W ∧ Clear n ρ ∧ Below n w0 W ∧ n ≤ W.heap.size
section
variable {n : Nat} {w0 W W' : World} {c : Nat} {L : List Nb}
theorem Lw.later (h : Lw n w0 W c L) (hb : Below W.heap.size W W') : Lw n w0 W' c L := by
  obtain ⟨ρ, h1, h2, h3, h4, h5⟩ := h
  exact ⟨ρ, h1.later hb, h2.below hb.size, h3, h4.trans (hb.mono h5), by have := hb.size; omega⟩
theorem Lw.below (h : Lw n w0 W c L) : Below n w0 W := by
  obtain ⟨ρ, h1, h2, h3, h4, h5⟩ := h
  exact h4
theorem Lw.size (h : Lw n w0 W c L) : n ≤ W.heap.size := by
  obtain ⟨ρ, h1, h2, h3, h4, h5⟩ := h
  exact h5
theorem Lw.step {ρ ρ' : Nat → Role} (h3 : Clear n ρ) (h4 : Below n w0 W) (h5 : n ≤ W.heap.size) (hc : Ca ρ' 1 W' c hostM hostI L) (hF : Fit ρ' W') (hm : Mv 1 ρ ρ' W W') : Lw n w0 W' c L := by
  obtain ⟨hcl, hbl⟩ := h3.move h5 (by omega) hm
  exact ⟨ρ', hc, hF, hcl, h4.trans hbl, by have := hm.but.size; omega⟩
theorem Lw.new {w : World} (h0 : n ≤ w.heap.size) (hb : Below n w0 w) : Calls Try.prog 13 #[hostM.val, hostI.val] w fun e w' => ∃ c, e = .returned (.pointer (some ⟨c, 0, none⟩)) ∧ Lw n w0 w' c [] := by
  refine (new_host (n := n) h0).mono ?_
  rintro _ w' ⟨c, ρ, rfl, hc, hF, hC, hb', hcl, _⟩
  exact ⟨c, rfl, ρ, hc, hF, hC, hb.trans (hb'.mono h0), by have := hb'.size; omega⟩
theorem Lw.find (h : Lw n w0 W c L) (now buf : Int) (hok : LOk now L) (hn1 : now ≤ 4611686018427387904) (ip : I4) : Calls Try.prog 19 #[.pointer (some ⟨c, 0, none⟩), ip.val, .int .i64 buf, .int .i64 now] W fun e w' => ∃ ga gc aa ac, e = .returned (.tuple #[(fd ip buf now L).mac.val, .slice ga (fd ip buf now L).gone.length gc, .slice aa (if (fd ip buf now L).ask then 1 else 0) ac, .int .i64 (fd ip buf now L).err]) ∧ Lw n w0 w' c (fd ip buf now L).L := by
  obtain ⟨ρ, h1, h2, h3, h4, h5⟩ := h
  refine (Find_any h1 h2 now buf hok hn1 ip).mono ?_
  rintro _ w' ⟨ρ', gv, av, rfl, hc, hF, hM, hg, ha⟩
  obtain ⟨ga, gc, rfl⟩ := hg.shape
  obtain ⟨aa, ac, rfl⟩ := ha.shape
  exact ⟨ga, gc, aa, ac, rfl, Lw.step h3 h4 h5 hc hF hM⟩
theorem Lw.heard (h : Lw n w0 W c L) (now : Int) (hok : LOk now L) (a : Ar) : Calls Try.prog 20 #[.pointer (some ⟨c, 0, none⟩), a.val, .int .i64 now] W fun e w' => ∃ aa ac ga gc, e = .returned (.tuple #[.slice aa (if (hd hostI a now L).ans then 1 else 0) ac, .slice ga (hd hostI a now L).may.length gc, (hd hostI a now L).mac.val]) ∧ Lw n w0 w' c (hd hostI a now L).L := by
  obtain ⟨ρ, h1, h2, h3, h4, h5⟩ := h
  refine (Heard_any h1 h2 now hok a).mono ?_
  rintro _ w' ⟨ρ', av, gv, rfl, hc, hF, hM, hg, ha⟩
  obtain ⟨ga, gc, rfl⟩ := hg.shape
  obtain ⟨aa, ac, rfl⟩ := ha.shape
  exact ⟨aa, ac, ga, gc, rfl, Lw.step h3 h4 h5 hc hF hM⟩
theorem Lw.tick (h : Lw n w0 W c L) (now : Int) (hok : LOk now L) (hn1 : now ≤ 4611686018427387904) : Calls Try.prog 18 #[.pointer (some ⟨c, 0, none⟩), .int .i64 now] W fun e w' => ∃ aa ac ga gc, e = .returned (.tuple #[.slice aa (tkA now L).length ac, .slice ga (tkG now L).length gc]) ∧ Lw n w0 w' c (tkL now L) := by
  obtain ⟨ρ, h1, h2, h3, h4, h5⟩ := h
  refine (Tick_any h1 h2 now hok hn1).mono ?_
  rintro _ w' ⟨ρ', av, gv, rfl, hc, hF, hM, hg, ha⟩
  obtain ⟨ga, gc, rfl⟩ := hg.shape
  obtain ⟨aa, ac, rfl⟩ := ha.shape
  exact ⟨aa, ac, ga, gc, rfl, Lw.step h3 h4 h5 hc hF hM⟩
theorem Lw.pending (h : Lw n w0 W c L) {now : Int} (hok : LOk now L) : Calls Try.prog 21 #[.pointer (some ⟨c, 0, none⟩)] W fun e w' => ∃ ga gc, e = .returned (.slice ga (pnd L).length gc) ∧ Lw n w0 w' c L := by
  have h' := h
  obtain ⟨ρ, h1, h2, h3, h4, h5⟩ := h
  refine (Pending_any h1 hok).mono ?_
  rintro _ w' ⟨v, rfl, hr, hb⟩
  obtain ⟨ga, gc, rfl⟩ := hr.shape
  exact ⟨ga, gc, rfl, h'.later hb⟩
end
theorem exec_ar4 {o : Oper} {w : World} {ev : Operand → Value} (x y z : Operand) (m0 m1 m2 m3 m4 m5 i0 i1 i2 i3 j0 j1 j2 j3 : Int) (ho : o.op = .build 27 #[(0, .const (.bool true)), (1, x), (2, y), (4, z)]) (hx : ev x = .agg #[.int .u8 m0, .int .u8 m1, .int .u8 m2, .int .u8 m3, .int .u8 m4, .int .u8 m5]) (hy : ev y = .agg #[.int .u8 i0, .int .u8 i1, .int .u8 i2, .int .u8 i3]) (hz : ev z = .agg #[.int .u8 j0, .int .u8 j1, .int .u8 j2, .int .u8 j3]) (hc : ∀ v, ev (.const v) = v) :
    (execOp ev o).run Try.prog w = .ok (.value (.agg (Ar.vals ⟨true, ⟨m0, m1, m2, m3, m4, m5⟩, ⟨i0, i1, i2, i3⟩, zM, ⟨j0, j1, j2, j3⟩⟩).toArray)) w := by
  unfold execOp
  rw [ho]
  simp only [List.map_toArray, List.map_cons, List.map_nil, hx, hy, hz, hc]
  kernel_rfl

/-! ArpAges, in numbers -/
def i2 : I4 := ⟨10, 0, 0, 2⟩
def said (mac : M6) : Ar := ⟨true, mac, i2, zM, hostI⟩
def nk (mac : M6) (since asked : Int) : Nb := ⟨i2, 2, mac, since, asked, 0, []⟩
def no_ (mac : M6) (asked tries : Int) : Nb := ⟨i2, 3, mac, 0, asked, tries, []⟩
/-- after d rounds: what is known, how often was asked -/
def agL (ag ans : Bool) (lt : Int) (mac : M6) (d : Nat) : List Nb := match ag, ans with
  | false, false => [nk mac 0 0]
  | false, true => if d = 0 then [nk mac 0 0] else [nk mac (lt + 1) 0]
  | true, true => if d = 0 then [no_ mac lt 1] else [nk mac (lt + 1) lt]
  | true, false => if d < 2 then [no_ mac lt 1] else if d < 4 then [no_ mac (lt + 2) 2] else if d < 6 then [no_ mac (lt + 4) 3] else []
def agN (ag ans : Bool) (d : Nat) : Nat := match ag, ans with
  | false, _ => 0
  | true, true => 1
  | true, false => if d < 2 then 1 else if d < 4 then 2 else 3
/-- between the Tick and the answer of a round -/
def agM (ag ans : Bool) (lt : Int) (mac : M6) (d : Nat) : List Nb := if ans = true ∧ d = 0 then agL ag ans lt mac 0 else agL ag ans lt mac (d + 1)
theorem nkOk {mac : M6} {since asked now : Int} (h0 : 0 ≤ since) (h1 : since ≤ now) (h2 : 0 ≤ asked) (h3 : asked ≤ now) : LOk now [nk mac since asked] :=
  ⟨by simp, fun x hx => by rw [List.mem_singleton.1 hx]; exact ⟨h0, h1, h2, h3, .inr (.inl rfl), by simp [nk], by simp [nk], by simp [nk], fun _ => rfl⟩, by simp⟩
theorem noOk {mac : M6} {asked tries now : Int} (h2 : 0 ≤ asked) (h3 : asked ≤ now) (h4 : 0 ≤ tries) (h5 : tries ≤ 3) : LOk now [no_ mac asked tries] :=
  ⟨by simp, fun x hx => by rw [List.mem_singleton.1 hx]; exact ⟨by simp [no_], by simp [no_]; omega, h2, h3, .inr (.inr rfl), h4, h5, by simp [no_], fun _ => rfl⟩, by simp⟩
theorem agOk (ag ans : Bool) (lt : Int) (mac : M6) (d : Nat) (h0 : 0 ≤ lt) : LOk (lt + 1 + d) (agL ag ans lt mac d) := by
  unfold agL
  cases ag <;> cases ans <;> simp only
  · exact nkOk (by omega) (by omega) (by omega) (by omega)
  · split
    · exact nkOk (by omega) (by omega) (by omega) (by omega)
    · exact nkOk (by omega) (by omega) (by omega) (by omega)
  · split
    · exact noOk (by omega) (by omega) (by omega) (by omega)
    · split
      · exact noOk (by omega) (by omega) (by omega) (by omega)
      · split
        · exact noOk (by omega) (by omega) (by omega) (by omega)
        · exact LOk.nil _
  · split
    · exact noOk (by omega) (by omega) (by omega) (by omega)
    · exact nkOk (by omega) (by omega) (by omega) (by omega)
theorem tk_nk (mac : M6) (since asked now : Int) : tkL now [nk mac since asked] = [nk mac since asked] ∧ tkA now [nk mac since asked] = [] ∧ tkG now [nk mac since asked] = [] := ⟨rfl, rfl, rfl⟩
theorem tk_q {mac : M6} {asked tries now : Int} (h : now - asked < 2) : tkL now [no_ mac asked tries] = [no_ mac asked tries] ∧ tkA now [no_ mac asked tries] = [] ∧ tkG now [no_ mac asked tries] = [] := by
  have e : tkQ now (no_ mac asked tries) = true := by
    unfold tkQ
    rw [show (decide (2 ≤ now - (no_ mac asked tries).asked)) = false from by show decide (2 ≤ now - asked) = false; simp; omega]
    simp
  refine ⟨?_, ?_, ?_⟩
  · simp [tkL, tk1, e]
  · simp [tkA, tkA1, e]
  · simp [tkG, tkG1, e]
theorem tk_p {mac : M6} {asked tries now : Int} (h : 2 ≤ now - asked) (ht : tries ≠ 3) : tkL now [no_ mac asked tries] = [no_ mac now (tries + 1)] ∧ (tkA now [no_ mac asked tries]).length = 1 ∧ tkG now [no_ mac asked tries] = [] := by
  have e : tkQ now (no_ mac asked tries) = false := by
    unfold tkQ
    rw [show (decide (2 ≤ now - (no_ mac asked tries).asked)) = true from by show decide (2 ≤ now - asked) = true; simp; omega]
    rfl
  have e3 : (no_ mac asked tries).tries ≠ 3 := ht
  refine ⟨?_, ?_, ?_⟩
  · simp [tkL, tk1, e, e3]
    rfl
  · simp [tkA, tkA1, e, e3]
  · simp [tkG, tkG1, e, e3]
theorem tk_3 {mac : M6} {asked now : Int} (h : 2 ≤ now - asked) : tkL now [no_ mac asked 3] = [] ∧ tkA now [no_ mac asked 3] = [] ∧ tkG now [no_ mac asked 3] = [] := by
  have e : tkQ now (no_ mac asked 3) = false := by
    unfold tkQ
    rw [show (decide (2 ≤ now - (no_ mac asked 3).asked)) = true from by show decide (2 ≤ now - asked) = true; simp; omega]
    rfl
  have e3 : (no_ mac asked 3).tries = 3 := rfl
  refine ⟨?_, ?_, ?_⟩
  · simp [tkL, tk1, e, e3]
  · simp [tkA, tkA1, e, e3]
  · simp [tkG, tkG1, e, e3]; rfl
theorem agTick (ag ans : Bool) (lt : Int) (mac : M6) (d : Nat) (hd : d < 10) : tkL (lt + 1 + d) (agL ag ans lt mac d) = agM ag ans lt mac d ∧ tkG (lt + 1 + d) (agL ag ans lt mac d) = [] ∧ agN ag ans d + (tkA (lt + 1 + d) (agL ag ans lt mac d)).length = agN ag ans (d + 1) := by
  cases ag <;> cases ans
  · exact ⟨(tk_nk _ _ _ _).1, (tk_nk _ _ _ _).2.2, by rw [show agL false false lt mac d = [nk mac 0 0] from rfl, (tk_nk _ _ _ _).2.1]; rfl⟩
  · by_cases e : d = 0
    · subst e; exact ⟨rfl, rfl, rfl⟩
    · have e1 : agL false true lt mac d = [nk mac (lt + 1) 0] := by unfold agL; simp [e]
      have e2 : agM false true lt mac d = [nk mac (lt + 1) 0] := by unfold agM agL; simp [e]
      rw [e1, e2]
      exact ⟨(tk_nk _ _ _ _).1, (tk_nk _ _ _ _).2.2, by rw [(tk_nk _ _ _ _).2.1]; rfl⟩
  · have hd' : d = 0 ∨ d = 1 ∨ d = 2 ∨ d = 3 ∨ d = 4 ∨ d = 5 ∨ d = 6 ∨ d = 7 ∨ d = 8 ∨ d = 9 := by omega
    have q := fun (asked tries now : Int) h => tk_q (mac := mac) (asked := asked) (tries := tries) (now := now) h
    rcases hd' with rfl | rfl | rfl | rfl | rfl | rfl | rfl | rfl | rfl | rfl
    · have h := q lt 1 (lt + 1 + ((0 : Nat) : Int)) (by omega)
      exact ⟨h.1, h.2.2, by rw [show agL true false lt mac 0 = [no_ mac lt 1] from rfl, h.2.1]; rfl⟩
    · have h := tk_p (mac := mac) (asked := lt) (tries := 1) (now := lt + 1 + ((1 : Nat) : Int)) (by omega) (by omega)
      refine ⟨?_, h.2.2, by rw [show agL true false lt mac 1 = [no_ mac lt 1] from rfl, h.2.1]; rfl⟩
      rw [show agL true false lt mac 1 = [no_ mac lt 1] from rfl, h.1, show agM true false lt mac 1 = [no_ mac (lt + 2) 2] from rfl]
      congr 2; omega
    · have h := q (lt + 2) 2 (lt + 1 + ((2 : Nat) : Int)) (by omega)
      exact ⟨h.1, h.2.2, by rw [show agL true false lt mac 2 = [no_ mac (lt + 2) 2] from rfl, h.2.1]; rfl⟩
    · have h := tk_p (mac := mac) (asked := lt + 2) (tries := 2) (now := lt + 1 + ((3 : Nat) : Int)) (by omega) (by omega)
      refine ⟨?_, h.2.2, by rw [show agL true false lt mac 3 = [no_ mac (lt + 2) 2] from rfl, h.2.1]; rfl⟩
      rw [show agL true false lt mac 3 = [no_ mac (lt + 2) 2] from rfl, h.1, show agM true false lt mac 3 = [no_ mac (lt + 4) 3] from rfl]
      congr 2; omega
    · have h := q (lt + 4) 3 (lt + 1 + ((4 : Nat) : Int)) (by omega)
      exact ⟨h.1, h.2.2, by rw [show agL true false lt mac 4 = [no_ mac (lt + 4) 3] from rfl, h.2.1]; rfl⟩
    · have h := tk_3 (mac := mac) (asked := lt + 4) (now := lt + 1 + ((5 : Nat) : Int)) (by omega)
      exact ⟨h.1, h.2.2, by rw [show agL true false lt mac 5 = [no_ mac (lt + 4) 3] from rfl, h.2.1]; rfl⟩
    all_goals exact ⟨rfl, rfl, rfl⟩
  · by_cases e : d = 0
    · subst e
      have h := tk_q (mac := mac) (asked := lt) (tries := 1) (now := lt + 1 + ((0 : Nat) : Int)) (by omega)
      exact ⟨h.1, h.2.2, by rw [show agL true true lt mac 0 = [no_ mac lt 1] from rfl, h.2.1]; rfl⟩
    · have e1 : agL true true lt mac d = [nk mac (lt + 1) lt] := by unfold agL; simp [e]
      have e2 : agM true true lt mac d = [nk mac (lt + 1) lt] := by unfold agM agL; simp [e]
      rw [e1, e2]
      exact ⟨(tk_nk _ _ _ _).1, (tk_nk _ _ _ _).2.2, by rw [(tk_nk _ _ _ _).2.1]; rfl⟩
/-- the answer, in the first round -/
theorem agHeard (ag : Bool) (lt : Int) (mac : M6) : (hd hostI (said mac) (lt + 1) (agM ag true lt mac 0)).L = agL ag true lt mac 1 := by
  cases ag <;> rfl
theorem agMOk (ag ans : Bool) (lt : Int) (mac : M6) (d : Nat) (hd : d < 10) (h0 : 0 ≤ lt) : LOk (lt + 1 + d) (agM ag ans lt mac d) := by
  rw [← (agTick ag ans lt mac d hd).1]
  exact (agOk ag ans lt mac d h0).tk (by omega)
end Go.Proofs.Ytjlifckkmkimcaa
