
/-
  slices.Collect, slices.SortedFunc of the map's rows: the rows in their order.
-/
import Derived.Test.YtlfacppkgamkgaaM17
namespace Go.Proofs.Ytlfacppkgamkgaa
open Go.RowKit Go.Shelf

theorem AppendSeq_any {w : World} (Bc b ck : Nat) (L : List Rw) (bh : Int) (hL : TbOk L ck bh) (hB : w.cell? ⟨Bc, 0, none⟩ = some (.map (some b))) (hM : MapAt w b L ck) :
    Calls Try.prog 30 #[.slice none 0 0, .func (.func 28) #[] #[.pointer (some ⟨Bc, 0, none⟩)]] w fun e w' => ∃ v T, e = .returned v ∧ T.Perm L ∧ RowF 11 (fun h => w.heap.size ≤ h) w' v T.length (rwc T) ∧ Below w.heap.size w w' :=
  callsIn_wide.1 (AppendSeq_in 3 (Nat.le_refl _) Bc b ck L bh hL hB hM)
set_option maxRecDepth 100000 in
theorem Collect_any {w : World} (Bc b ck : Nat) (L : List Rw) (bh : Int) (hL : TbOk L ck bh) (hB : w.cell? ⟨Bc, 0, none⟩ = some (.map (some b))) (hM : MapAt w b L ck) :
    Calls Try.prog 26 #[.func (.func 28) #[] #[.pointer (some ⟨Bc, 0, none⟩)]] w fun e w' => ∃ v T, e = .returned v ∧ T.Perm L ∧ RowF 11 (fun h => w.heap.size ≤ h) w' v T.length (rwc T) ∧ Below w.heap.size w w' := by
  have A := hide (AppendSeq_any Bc b ck L bh hL hB hM)
  clear hB hM
  go_enter Try.func26, Try.ntmps26
  go_wp2_with fail
  refine A.out.mono ?_
  rintro e w' ⟨v, T, rfl, h⟩
  go_wp2
  go_ret
  exact ⟨v, T, rfl, h⟩
theorem sorted_eq {L Y : List Rw} {ck : Nat} {bh : Int} (hL : TbOk L ck bh) (hp : Y.Perm L) (hs : Y.Pairwise (fun r s => r.pl ≤ s.pl)) : Y = L :=
  List.Perm.eq_of_pairwise (le := fun r s : Rw => r.pl ≤ s.pl) (fun a b ha hb h1 h2 => pair_eq hL.asc (fun r => by omega) (hp.subset ha) hb (by omega) (by omega)) hs (hL.asc.imp (fun {a b} h => by omega)) hp
set_option maxRecDepth 100000 in
set_option maxHeartbeats 1000000 in
theorem SortedFunc_any {w : World} (Bc b ck : Nat) (L : List Rw) (bh : Int) (hL : TbOk L ck bh) (hB : w.cell? ⟨Bc, 0, none⟩ = some (.map (some b))) (hM : MapAt w b L ck) :
    Calls Try.prog 22 #[.func (.func 28) #[] #[.pointer (some ⟨Bc, 0, none⟩)], .func (.func 15) #[] #[]] w fun e w' => ∃ a0 cap g, e = .returned (.slice a0 L.length cap) ∧ (0 < L.length → a0 = some ⟨g, 0, none⟩) ∧ RowR w' g L ∧ Below w.heap.size w w' := by
  have A := hide (Collect_any Bc b ck L bh hL hB hM)
  have HL := hide hL
  clear hB hM hL
  go_enter Try.func22, Try.ntmps22
  go_wp2_with fail
  refine A.out.mono ?_
  rintro e w1 ⟨v, T, rfl, hp, hr, hb⟩
  obtain ⟨a0, cap, rfl⟩ := hr.shape
  have hl : T.length = L.length := hp.length_eq
  obtain ⟨g, hg, hg2, hR⟩ : ∃ g, (0 < T.length → a0 = some ⟨g, 0, none⟩) ∧ w.heap.size ≤ g ∧ RowR w1 g T := by
    by_cases h0 : 0 < T.length
    · obtain ⟨g, e1, e2, e3, e4, e5⟩ := hr.at h0
      refine ⟨g, fun _ => e1, e3, fun q r hq => ?_, e4⟩
      have hlt := (List.getElem?_eq_some_iff.1 hq).1
      have := e5 q hlt
      unfold rwc at this
      rw [hq] at this
      exact this
    · refine ⟨w1.heap.size, fun h => absurd h h0, hb.size, fun q r hq => ?_, fun j => ?_⟩
      · have := (List.getElem?_eq_some_iff.1 hq).1; omega
      · simp [World.frozen?]
  have n8 : T.length ≤ 8 := by rw [hl]; exact HL.out.len
  have S := hide (SortFunc_any (cap := cap) a0 T.length rfl n8 hg hR)
  have HB := hide hb
  have HP := hide hp
  have HG := hide hg
  have HG2 := hide hg2
  have HLn := hide hl
  obtain ⟨n, hn⟩ : ∃ n, n = T.length := ⟨_, rfl⟩
  rw [← hn] at S HG HLn n8 ⊢
  clear hb hp hg hg2 hR hr hl hn A
  go_wp2_with fail
  refine S.out.mono ?_
  rintro e w2 ⟨rfl, Y, r2, p2, s2, b2⟩
  have eY := sorted_eq HL.out (p2.trans HP.out) s2
  subst eY
  have FE : Hid (Below w.heap.size w w2) := HB.out.trans (b2.below HB.out.size (fun q hq e => by have e : q = g := e; have := HG2.out; omega))
  have R2 := hide r2
  clear r2 p2 s2 b2 S
  go_wp2
  go_ret
  refine ⟨a0, cap, g, by rw [← HLn.out]; rfl, fun h => HG.out (by rw [HLn.out]; exact h), R2.out, FE.out⟩
section
variable {ops : Array Oper} {rest : List Oper} {o : Oper} {a : Act} {w w' : World} {Q : Exit → Act → World → Prop}
/-- an operation of a region that keeps its order: a value, a store -/
theorem listVP (d : Tmp) (v : Value) (hgd : o.guard = none) (_hnd : noDefer o = true) (hd : o.dst = some d) (hrun : (execOp a.eval o).run Try.prog w = .ok (.value v) w') (h : wpList Try.prog ops Q rest (a.put (some d) v) w') : wpList Try.prog ops Q (o :: rest) a w := by
  refine wpList_plain hgd fun K hK => ?_
  unfold Oper.wp
  rw [hrun]
  simp only [Oper.upon, hd]
  exact hK _ _ h
theorem listSP (hgd : o.guard = none) (_hnd : noDefer o = true) (hd : o.dst = none) (hrun : (execOp a.eval o).run Try.prog w = .ok .skip w') (h : wpList Try.prog ops Q rest a w') : wpList Try.prog ops Q (o :: rest) a w := by
  refine wpList_plain hgd fun K hK => ?_
  unfold Oper.wp
  rw [hrun]
  simp only [Oper.upon, hd, Act.put]
  exact hK _ _ h
end
end Go.Proofs.Ytlfacppkgamkgaa
