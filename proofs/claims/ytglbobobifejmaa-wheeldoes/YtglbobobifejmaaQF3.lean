
/-
  The document's Advance.
-/
import Derived.Test.YtglbobobifejmaaQF2
import Derived.Test.YtglbobobifejmaaQTb
namespace Go.Proofs.Ytglbobobifejmaa
open Go.RowKit

/-- of the timers L, O has been told, M is left -/
structure Part (L : List (Int × Int)) (t : Int) (O M : List (Int × Int)) : Prop where
  srt : O.Pairwise (fun p q => p.2 ≤ q.2)
  le : ∀ p ∈ O, ∀ q ∈ M, p.2 ≤ q.2
  tick : ∀ τ, O.filter (fun p => decide (p.2 = τ)) ++ (M.filter (fun p => decide (p.2 ≤ t))).filter (fun p => decide (p.2 = τ)) = (L.filter (fun p => decide (p.2 ≤ t))).filter (fun p => decide (p.2 = τ))
  st : stay M t = stay L t
  uniq : M.Pairwise (fun p q => p.1 ≠ q.1)
  len : O.length + M.length = L.length
theorem Part.start {L : List (Int × Int)} (hu : L.Pairwise (fun p q => p.1 ≠ q.1)) (t : Int) : Part L t [] L :=
  ⟨List.Pairwise.nil, (fun _ h => by cases h), fun _ => rfl, rfl, hu, Nat.zero_add _⟩
theorem noId_mid {A B : List (Int × Int)} {p : Int × Int} (hu : (A ++ p :: B).Pairwise (fun p q => p.1 ≠ q.1)) : noId (A ++ p :: B) p.1 = A ++ B := by
  rw [List.pairwise_append] at hu
  obtain ⟨_, h2, h3⟩ := hu
  unfold noId
  rw [List.filter_append]
  congr 1
  · exact filter_same (fun q hq => h3 q hq p (List.mem_cons_self ..))
  · exact noId_head h2
theorem Part.step {L O M : List (Int × Int)} {t : Int} (h : Part L t O M) {j : Nat} {p : Int × Int} (hp : M[j]? = some p) (hn : ∀ k q, k < j → M[k]? = some q → q.2 ≠ p.2) (hm : ∀ q ∈ M, p.2 ≤ q.2) (ht : p.2 ≤ t) : Part L t (O ++ [p]) (noId M p.1) := by
  have hj := (List.getElem?_eq_some_iff.1 hp).1
  have eM : M = M.take j ++ p :: M.drop (j + 1) := by
    have h1 : M.drop j = p :: M.drop (j + 1) := by
      rw [List.drop_eq_getElem_cons hj]
      rw [List.getElem?_eq_getElem hj] at hp
      rw [Option.some.inj hp]
    rw [← h1, List.take_append_drop]
  have hA : ∀ q ∈ M.take j, q.2 ≠ p.2 := fun q hq => by
    obtain ⟨k, hk, e⟩ := List.getElem_of_mem hq
    have hk2 : k < j := by rw [List.length_take] at hk; omega
    refine hn k q hk2 ?_
    rw [List.getElem_take] at e
    rw [List.getElem?_eq_getElem (by omega), e]
  obtain ⟨A, hAe⟩ : ∃ A, M.take j = A := ⟨_, rfl⟩
  obtain ⟨B, hBe⟩ : ∃ B, M.drop (j + 1) = B := ⟨_, rfl⟩
  rw [hAe] at hA
  rw [hAe, hBe] at eM
  clear hAe hBe hp hn hj
  subst eM
  have hN := noId_mid h.uniq
  rw [hN]
  have hpm : p ∈ A ++ p :: B := by simp
  have sub : ∀ q, q ∈ A ++ B → q ∈ A ++ p :: B := fun q hq => by
    rcases List.mem_append.1 hq with e | e
    · exact List.mem_append.2 (.inl e)
    · exact List.mem_append.2 (.inr (List.mem_cons_of_mem _ e))
  refine ⟨?_, ?_, fun τ => ?_, ?_, ?_, ?_⟩
  · rw [List.pairwise_append]
    exact ⟨h.srt, List.pairwise_singleton _ _, fun a ha c hc => by simp only [List.mem_cons, List.not_mem_nil, or_false] at hc; rw [hc]; exact h.le a ha p hpm⟩
  · intro a ha q hq
    rcases List.mem_append.1 ha with e | e
    · exact h.le a e q (sub q hq)
    · simp only [List.mem_cons, List.not_mem_nil, or_false] at e
      rw [e]; exact hm q (sub q hq)
  · have h1 := h.tick τ
    rw [← h1]
    simp only [List.filter_append]
    rw [List.filter_cons_of_pos (p := fun q : Int × Int => decide (q.2 ≤ t)) (by simpa using ht)]
    by_cases e : p.2 = τ
    · rw [List.filter_cons_of_pos (p := fun q : Int × Int => decide (q.2 = τ)) (by simpa using e), List.filter_cons_of_pos (p := fun q : Int × Int => decide (q.2 = τ)) (by simpa using e)]
      have : (A.filter (fun q => decide (q.2 ≤ t))).filter (fun q => decide (q.2 = τ)) = [] := by
        rw [List.filter_eq_nil_iff]
        intro q hq
        have := hA q (List.mem_filter.1 hq).1
        rw [e] at this
        simpa using this
      rw [this]; simp
    · rw [List.filter_cons_of_neg (p := fun q : Int × Int => decide (q.2 = τ)) (by simpa using e), List.filter_cons_of_neg (p := fun q : Int × Int => decide (q.2 = τ)) (by simpa using e)]
      simp
  · rw [← h.st]
    unfold stay
    rw [List.filter_append, List.filter_append, List.filter_cons_of_neg (by simp; omega)]
  · exact h.uniq.sublist (List.Sublist.append (List.Sublist.refl _) (List.sublist_cons_self ..))
  · have := h.len
    simp only [List.length_append, List.length_cons, List.length_nil] at this ⊢
    omega
theorem Part.done {L O M : List (Int × Int)} {t : Int} (h : Part L t O M) (hm : ∀ q ∈ M, t < q.2) : OutOf L t O ∧ M = stay L t := by
  refine ⟨⟨h.srt, fun τ => ?_⟩, ?_⟩
  · have := h.tick τ
    rw [show M.filter (fun p => decide (p.2 ≤ t)) = [] from List.filter_eq_nil_iff.2 (fun q hq => by have := hm q hq; simp; omega)] at this
    simpa using this
  · rw [← h.st]; unfold stay
    exact (List.filter_eq_self.2 (fun q hq => by simpa using hm q hq)).symm

section
variable {w : World} {r : Nat} {now : Int} {v : Value} {L : List (Int × Int)}
def RAdEnd (w : World) (r : Nat) (now : Int) (v : Value) (L : List (Int × Int)) (t : Int) (e : Ending) (w' : World) : Prop :=
  (adBad now t = true ∧ e = .returned (.tuple #[.slice none 0 0, .int .i64 1]) ∧ w' = w) ∨
  (adBad now t = false ∧ ∃ O vo, e = .returned (.tuple #[vo, .int .i64 0]) ∧ OutOf L t O ∧ w'.ownsRow w.heap.size 49 2 vo O.length (flt O) ∧ (∃ v', RfAt w' r t v' (stay L t) ∧ (∀ k, v'.ownBlock = some k → w.heap.size ≤ k ∨ v.ownBlock = some k)) ∧ But (Only r) w w')
set_option maxRecDepth 100000 in
set_option maxHeartbeats 8000000 in
theorem radvance_any (h : RfAt w r now v L) (hl : L.length ≤ 64) (hu : L.Pairwise (fun p q => p.1 ≠ q.1)) (t : Int) : Calls Try.prog 18 #[.pointer (some ⟨r, 0, none⟩), .int .i64 t] w (RAdEnd w r now v L t) := by
  have c0 := h.c0
  have f0 := h.fz 0
  have HL := hide hl
  have HLT := hide h.lt
  obtain ⟨bd, hbd⟩ : ∃ B, adBad now t = B := ⟨_, rfl⟩
  have EB := hide hbd
  have BB := hide (show bd = (decide (t < now) || decide (1099511627776 < t)) from hbd.symm)
  obtain ⟨W1, eW1⟩ : ∃ W, w.setCell ⟨r, 0, none⟩ (.int .i64 t) = W := ⟨_, rfl⟩
  have H1 : Hid (RfAt W1 r t v L) := by rw [← eW1]; exact h.tick t
  have B1 : Hid (But (Only r) w W1) := by rw [← eW1]; exact but_set w r 0 _
  have E1 := hide eW1
  have P1 := hide (Part.start hu t)
  clear h hbd eW1 hl hu
  go_enter Try.func18, Try.ntmps18
  go_upto_region 1 with fail
  go_cut [21] (fun c wc => c = .bool bd ∧ w = wc)
  case first =>
    by_cases h1 : t < now
    · go_wp2
      go_meet
      case rel => exact ⟨by rw [BB.out, decide_eq_true h1]; simp, rfl⟩
    · go_wp2
      go_meet
      case rel => exact ⟨by rw [BB.out, decide_eq_false (show ¬ t < now by omega)]; simp, rfl⟩
  case rest =>
    obtain ⟨rfl, hw⟩ := hcut
    subst hw
    cases bd
    · go_wp2
      rw [E1.out]
      go_loopw [6] (fun v6 wr => ∃ (O M : List (Int × Int)) (v1 : Value), Hid (Part L t O M) ∧ Hid (RfAt wr r t v1 M) ∧ Hid (∀ k, v1.ownBlock = some k → w.heap.size ≤ k ∨ v.ownBlock = some k) ∧ Hid (wr.ownsRow w.heap.size 49 2 v6 O.length (flt O)) ∧ Hid (∀ k, v6.ownBlock = some k → v1.ownBlock ≠ some k) ∧ Hid (But (Only r) w wr) ∧ Hid (M.length + O.length = L.length)) (fun v6 _ => L.length - (match v6 with | .slice _ n _ => n | _ => 0))
      case atStart => exact ⟨[], L, v, P1.out, H1.out, fun k hk => .inr hk, World.ownsRow_nil _ _ _ _, (fun k hk => by cases hk), B1.out, rfl⟩
      case round =>
        obtain ⟨O, M, v1, HP, HR, HV, HO, HD, HB, _⟩ := hrel
        obtain ⟨oa, oc, e6⟩ := row_shape HO.out
        subst e6
        have hlen := HP.out.len
        have lM : M.length ≤ 64 := by have := HL.out; omega
        have lO : O.length ≤ 64 := by have := HL.out; omega
        obtain ⟨ma, mc, em, hmg⟩ := HR.out.row.shape
        have EM := hide em
        have NX := hide (rnext_any HR.out lM)
        clear em H1 B1 E1 P1 c0 f0
        go_wp2_with fail
        refine NX.out.mono ?_
        rintro e w1 ⟨m, rfl, hm, rfl⟩
        have FD : Hid ((∀ q ∈ M, t < q.2) → RAdEnd w r now v L t (.returned (.tuple #[.slice oa O.length oc, .int .i64 0])) w1) := fun hq => by
          obtain ⟨d1, d2⟩ := HP.out.done hq
          exact .inr ⟨EB.out, O, _, rfl, d1, HO.out, ⟨v1, by rw [← d2]; exact HR.out, HV.out⟩, HB.out⟩
        cases m with
        | none =>
          have FIN := hide (FD.out (fun q hq => by rw [hm.1 rfl] at hq; cases hq))
          clear FD NX
          go_wp2
          go_ret2
          exact FIN.out
        | some n =>
          obtain ⟨hex, hle⟩ := hm.2 n rfl
          simp only [Option.getD_some, Option.isSome_some]
          by_cases htn : t < n
          · have FIN := hide (FD.out (fun q hq => by have := hle q hq; omega))
            clear FD NX
            go_wp2
            go_ret2
            exact FIN.out
          · have HEX : Hid (∃ i p, 0 ≤ i ∧ M[i]? = some p ∧ p.2 = n) := by
              obtain ⟨p, hp, e⟩ := hex
              obtain ⟨i, hi, e2⟩ := List.getElem_of_mem hp
              exact ⟨i, p, Nat.zero_le _, by rw [List.getElem?_eq_getElem hi, e2], e⟩
            have HLE := hide hle
            have cm := HR.out.c1
            have fm := HR.out.fz 1
            rw [EM.out] at cm
            have RM := HR.out.row
            rw [EM.out] at RM
            have HRM := hide RM
            clear FD NX hm hex hle RM
            go_wp2
            go_loopw [9] (fun v9 wq => ∃ j : Nat, v9 = .int .i64 (j : Int) ∧ Hid (∃ i p, j ≤ i ∧ M[i]? = some p ∧ p.2 = n) ∧ Hid (∀ k q, k < j → M[k]? = some q → q.2 ≠ n) ∧ w1 = wq) (fun v9 _ => M.length - (intOf v9).toNat)
            case atStart => exact ⟨0, rfl, HEX.out, fun k q hk => by omega, rfl⟩
            case round =>
              obtain ⟨j, rfl, HJ, HK, hw⟩ := hrel
              subst hw
              have hj : j < M.length := by
                obtain ⟨i, p, h1, h2, _⟩ := HJ.out
                have := (List.getElem?_eq_some_iff.1 h2).1
                omega
              obtain ⟨gm, rfl⟩ := hmg (by omega)
              obtain ⟨⟨pid, ptm⟩, hp⟩ : ∃ o, M[j]? = some o := ⟨M[j], List.getElem?_eq_getElem hj⟩
              obtain ⟨q0, q1⟩ := HRM.out.at hp
              have zj : (j : Int) < (M.length : Int) := by omega
              by_cases e : ptm = n
              · subst e
                obtain ⟨g', c', w', hrun, ho, hb2⟩ := more_one HO.out (pid, ptm) HB.out.size lO
                simp only at hrun
                have gm1 := (row_own_ge HO.out)
                have R2 : RfAt w' r t v1 M := HR.out.but hb2 (fun e => by have := (gm1 r e).1; have := HLT.out; omega) (fun k hk e => HD.out k e hk)
                have cm2 := R2.c1
                have RM2 := R2.row
                rw [EM.out] at cm2 RM2
                obtain ⟨p0, p1⟩ := RM2.at hp
                have X := hide (without_any R2 lM pid)
                have PS := hide (HP.out.step hp HK.out HLE.out (by show ptm ≤ t; omega))
                have HR2 := hide R2
                have HO2 := hide ho
                have BB2 : Hid (But (Only r) w w') := HB.out.trans' hb2 (fun g hg e => by have := (gm1 g e).1; omega)
                have HRN := hide hrun
                clear hrun ho hb2 R2 RM2 gm1 hp HO HR HP HB HD HK HJ HEX HLE HRM HV
                have nn1 : O.length + 1 ≤ L.length := by omega
                have NN := hide nn1
                obtain ⟨nn, hnn⟩ : ∃ x, O.length + 1 = x := ⟨_, rfl⟩
                have HNN := hide hnn
                rw [hnn] at HRN
                clear nn1 hnn
                go_wp2_with (at_builtin; refine wpList_app rfl _ _ 32 32 rfl _ _ rfl rfl HRN.out ?_)
                go_wp2_with fail
                refine X.out.mono ?_
                rintro e w2 ⟨v2, rfl, ho3, hb3⟩
                obtain ⟨va, vc, rfl⟩ := row_shape ho3
                have R3 := HR2.out.later hb3
                have c3 := R3.c1
                have f3 := R3.fz 1
                have nr : (Value.slice va (noId M pid).length vc).ownBlock ≠ some r := fun e => by
                  have := (row_own_ge ho3 r e).1
                  have := HR2.out.lt
                  omega
                have FIN : Hid (∃ (O' M' : List (Int × Int)) (v1 : Value), Hid (Part L t O' M') ∧ Hid (RfAt (w2.setCell ⟨r, 1, none⟩ (.slice va (noId M pid).length vc)) r t v1 M') ∧ Hid (∀ k, v1.ownBlock = some k → w.heap.size ≤ k ∨ v.ownBlock = some k) ∧ Hid ((w2.setCell ⟨r, 1, none⟩ (.slice va (noId M pid).length vc)).ownsRow w.heap.size 49 2 (.slice (some ⟨g', 0, none⟩) nn c') O'.length (flt O')) ∧ Hid (∀ k, (Value.slice (some ⟨g', 0, none⟩) nn c').ownBlock = some k → v1.ownBlock ≠ some k) ∧ Hid (But (Only r) w (w2.setCell ⟨r, 1, none⟩ (.slice va (noId M pid).length vc))) ∧ Hid (M'.length + O'.length = L.length)) := by
                  have ho4 := HO2.out
                  rw [HNN.out] at ho4
                  have g2 := row_own_ge ho4
                  refine ⟨O ++ [(pid, ptm)], noId M pid, _, PS.out, R3.put (row_zero ho3) nr, fun k hk => .inl (Nat.le_trans BB2.out.size (row_own_ge ho3 k hk).1), ?_, fun k hk e => ?_, (BB2.out.trans (But.of_below hb3)).trans (but_set w2 r 1 _), ?_⟩
                  · exact row_own_keep (row_own_keep ho4 (But.of_below (K := fun _ => False) hb3) (fun _ _ e => e)) (but_set w2 r 1 _) (fun k hk (e : k = r) => by
                      have := (g2 k hk).1
                      have := HLT.out
                      omega)
                  · have h1 := (g2 k hk).2
                    have h2 := (row_own_ge ho3 k e).1
                    omega
                  · have := PS.out.len
                    show _ = _
                    omega
                have M1 : Hid (L.length - nn < L.length - O.length) := by
                  have h1 := NN.out
                  have h2 := HNN.out
                  show _ < _
                  omega
                clear R3 nr ho3 hb3 X HR2 HO2 BB2 PS HRN NN HNN
                generalize (noId M pid).length = mm at *
                go_wp2
                go_roundw
                case rel => exact FIN.out
                case measure => exact M1.out
              · go_wp2
                go_roundw
                case rel => exact ⟨j + 1, by go_num, (by
                  obtain ⟨i, p, h1, h2, h3⟩ := HJ.out
                  refine ⟨i, p, ?_, h2, h3⟩
                  by_cases q : i = j
                  · subst q; rw [hp] at h2; cases h2; exact absurd h3 e
                  · omega), fun k q hk hq => by
                    by_cases q2 : k = j
                    · subst q2; rw [hp] at hq; cases hq; exact e
                    · exact HK.out k q (by omega) hq, trivial⟩
                case measure => simp [intOf]; omega
    · have FIN : Hid (RAdEnd w r now v L t (.returned (.tuple #[.slice none 0 0, .int .i64 1])) w) := .inl ⟨EB.out, rfl, rfl⟩
      go_wp2
      go_ret2
      exact FIN.out
end
end Go.Proofs.Ytglbobobifejmaa
