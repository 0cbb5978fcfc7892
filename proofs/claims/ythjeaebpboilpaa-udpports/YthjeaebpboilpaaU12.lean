
/-
  Package udp: Free.
-/
import Derived.Test.YthjeaebpboilpaaU6
import Derived.Maps.RangeRun
namespace Go.Proofs.Ythjeaebpboilpaa
open Go.RowKit Go.Shelf
open Go.ChangeMaps (setBlock)

/-- what holds of a table of ports -/
structure OOk (L : List Po) (ck : Nat) : Prop where
  lt : ∀ r ∈ L, r.bn < ck
  bn : (L.map (·.bn)).Nodup
  n : (L.map (·.n)).Nodup
theorem nod_eq {α β : Type} {f : α → β} : ∀ {L : List α}, (L.map f).Nodup → ∀ {a b : α}, a ∈ L → b ∈ L → f a = f b → a = b
  | [], _, _, _, h, _, _ => by cases h
  | x :: L, hn, a, b, ha, hb, e => by
    rw [List.map_cons, List.nodup_cons] at hn
    rcases List.mem_cons.1 ha with ea | ha'
    · rcases List.mem_cons.1 hb with eb | hb'
      · rw [ea, eb]
      · exact absurd (List.mem_map.2 ⟨b, hb', by rw [← e, ea]⟩) hn.1
    · rcases List.mem_cons.1 hb with eb | hb'
      · exact absurd (List.mem_map.2 ⟨a, ha', by rw [e, eb]⟩) hn.1
      · exact nod_eq hn.2 ha' hb' e
theorem OOk.nil (ck : Nat) : OOk [] ck := ⟨(fun _ h => by cases h), .nil, .nil⟩
theorem OOk.push {L : List Po} {ck : Nat} (h : OOk L ck) {p who : Int} (hf : otk p L = false) : OOk (L ++ [⟨p, who, ck⟩]) (ck + 1) := by
  have hno := ofd_none (otk_none hf)
  refine ⟨fun r hr => ?_, ?_, ?_⟩
  · rcases List.mem_append.1 hr with hr | hr
    · have := h.lt r hr; omega
    · rw [List.mem_singleton.1 hr]; show ck < ck + 1; omega
  · rw [List.map_append]
    refine List.nodup_append.2 ⟨h.bn, by simp, fun a ha b hb => ?_⟩
    obtain ⟨q, hq, rfl⟩ := List.mem_map.1 ha
    have e : b = ck := by simpa using hb
    have := h.lt q hq
    omega
  · rw [List.map_append]
    refine List.nodup_append.2 ⟨h.n, by simp, fun a ha b hb => ?_⟩
    obtain ⟨q, hq, rfl⟩ := List.mem_map.1 ha
    have e : b = p := by simpa using hb
    rw [e]
    exact hno q hq
theorem OOk.filter {L : List Po} {ck : Nat} (h : OOk L ck) (p : Po → Bool) : OOk (L.filter p) ck :=
  ⟨fun r hr => h.lt r (List.mem_filter.1 hr).1, h.bn.sublist (List.filter_sublist.map _), h.n.sublist (List.filter_sublist.map _)⟩
theorem erase_filter {n : Int} : ∀ {M : List Po}, (M.map (·.n)).Nodup → ∀ {i : Nat} {q : Po}, ofd n M = some (i, q) → M.eraseIdx i = M.filter (fun e => !(e.n == n))
  | [], _, _, _, h => by cases h
  | x :: M, hn, i, q, h => by
    rw [List.map_cons, List.nodup_cons] at hn
    unfold ofd at h
    split at h
    · rename_i hk
      cases h
      have e1 : (!(x.n == n)) = false := by simp [hk]
      rw [List.eraseIdx_zero, List.tail_cons, List.filter_cons, if_neg (by rw [e1]; decide)]
      refine (List.filter_eq_self.2 (fun e he => ?_)).symm
      have : e.n ≠ n := fun e' => hn.1 (List.mem_map.2 ⟨e, he, by rw [e']; exact hk⟩)
      simp [this]
    · rename_i hk
      cases hf : ofd n M with
      | none => rw [hf] at h; cases h
      | some p =>
        rw [hf] at h
        cases h
        have e1 : (!(x.n == n)) = true := by
          have : ¬ x.n = n := fun e => hk e.symm
          simp [this]
        rw [List.eraseIdx_cons_succ, List.filter_cons, if_pos e1, erase_filter hn.2 (i := p.1) (q := p.2) hf]
/-- what is left when T were looked at -/
def kp (L : List Po) (who : Int) (T : List Nat) : List Po := L.filter (fun e => !(e.who == who && T.contains e.bn))
theorem kp_nil (L : List Po) (who : Int) : kp L who [] = L := by
  unfold kp
  exact List.filter_eq_self.2 (fun e _ => by simp)
theorem kp_keep {L : List Po} {ck : Nat} (h : OOk L ck) {who : Int} {T : List Nat} {q : Po} (hq : q ∈ L) (hw : q.who ≠ who) : kp L who (T ++ [q.bn]) = kp L who T := by
  unfold kp
  refine List.filter_congr (fun e he => ?_)
  by_cases hb : e.bn = q.bn
  · have := nod_eq h.bn he hq hb
    subst this
    simp [hw]
  · have : (T ++ [q.bn]).contains e.bn = T.contains e.bn := by simp [hb]
    rw [this]
theorem kp_gone {L : List Po} {ck : Nat} (h : OOk L ck) {who : Int} {T : List Nat} {q : Po} (hq : q ∈ L) (hw : q.who = who) {i : Nat} {q' : Po} (hf : ofd q.n (kp L who T) = some (i, q')) : (kp L who T).eraseIdx i = kp L who (T ++ [q.bn]) := by
  have hnn : ((kp L who T).map (·.n)).Nodup := by unfold kp; exact h.n.sublist (List.filter_sublist.map _)
  rw [erase_filter hnn hf]
  unfold kp
  rw [List.filter_filter]
  refine List.filter_congr (fun e he => ?_)
  by_cases hb : e.bn = q.bn
  · have := nod_eq h.bn he hq hb
    subst this
    simp [hw]
  · have hn : e.n ≠ q.n := fun e' => hb (by rw [nod_eq h.n he hq e'])
    have : (T ++ [q.bn]).contains e.bn = T.contains e.bn := by simp [hb]
    rw [this]
    simp [hn]
theorem kp_end {L : List Po} {who : Int} {T : List Nat} (h : ∀ e ∈ kp L who T, e.bn ∈ T) : kp L who T = L.filter (fun e => !(e.who == who)) := by
  unfold kp
  refine List.filter_congr (fun e he => ?_)
  by_cases hw : e.who = who
  · by_cases hT : e.bn ∈ T
    · simp [hw, hT]
    · exfalso
      refine hT (h e ?_)
      unfold kp
      exact List.mem_filter.2 ⟨he, by simp [hT]⟩
  · simp [hw]
theorem ofd_mem {L : List Po} {q : Po} (hq : q ∈ L) : ∃ i q', ofd q.n L = some (i, q') := by
  cases hf : ofd q.n L with
  | none => exact absurd rfl (ofd_none hf q hq)
  | some p => exact ⟨p.1, p.2, rfl⟩
theorem odel_run {w : World} {b ck : Nat} {L : List Po} (h : OmAt w b L ck) (n : Int) (i : Nat) (r : Po) (hf : ofd n L = some (i, r)) (ty : TypeId) : (Builtin.delete_ #[74, 3] ty #[.map (some b), .int .i64 n]).run Try.prog w = .ok (.tuple #[]) (setBlock w b (.map ((L.eraseIdx i).map oent).toArray ck)) := by
  have h1 := ofind_run w n L
  have h2 : ∀ em, (Instr.checkKey em 10000 3 (.int .i64 n)).run Try.prog w = .ok () w := fun em => ochk w em n
  rw [hf] at h1
  simp [Builtin.delete_, run_underlying ou_map, MapKept.run_getObj_map h, h2, h1, MapKept.run_setObj_map _ h, Result.andThen, setBlock, Go.ChangeMaps.map_eraseIdx]
theorem free1_any (n o who : Int) (s : Nat) (w : World) (h : w.cell? ⟨s, 0, none⟩ = some (.int .i64 who)) : Calls Try.prog 36 #[.int .i64 n, .int .i64 o, .pointer (some ⟨s, 0, none⟩)] w fun e w' => e = .returned (.bool (o == who)) ∧ w' = w := by
  obtain ⟨q, hq⟩ : ∃ q, q = (o == who) := ⟨_, rfl⟩
  rw [← hq]
  have hq' := hq.symm
  clear hq
  go_enter Try.func36, Try.ntmps36
  go_wp2
  go_ret
  exact ⟨rfl, rfl⟩
set_option maxRecDepth 100000 in
set_option maxHeartbeats 4000000 in
theorem delF_any {w : World} {b ck : Nat} {L : List Po} (h : OmAt w b L ck) (hL : OOk L ck) (who : Int) (s : Nat) (hs : w.cell? ⟨s, 0, none⟩ = some (.int .i64 who)) (hsb : s ≠ b) : Calls Try.prog 35 #[.map (some b), .func (.func 36) #[] #[.pointer (some ⟨s, 0, none⟩)]] w fun e w' => e = .returned (.tuple #[]) ∧ OmAt w' b (L.filter (fun e => !(e.who == who))) ck ∧ But (Only b) w w' := by
  have rg := run_range_map (P := Try.prog) w 74 3 3 b (L.map oent).toArray ck ou_map h
  obtain ⟨r, hr⟩ : ∃ r, r = w.heap.size := ⟨_, rfl⟩
  obtain ⟨W1, hW1⟩ : ∃ W1, W1 = w.alloc (.mapIter (some b) ck #[] ck) := ⟨_, rfl⟩
  have b1 : Below w.heap.size w W1 := by rw [hW1]; exact (Below.refl _ _).alloc (Nat.le_refl _) _
  have i1 : W1.heap[r]? = some (.mapIter (some b) ck #[] ck) := by rw [hW1, hr]; exact heap_alloc_new w _
  rw [← hW1, ← hr] at rg
  have lb := h.lt
  have ls : s < w.heap.size := World.block_lt_of_cell? w _ hs
  have O1 : Hid (OmAt W1 b (kp L who []) ck) := by rw [kp_nil]; exact h.but (K := fun _ => False) (But.of_below b1) id
  have BT1 : Hid (But (fun g => g = b) w W1) := But.of_below b1
  have IT := hide i1
  have HL := hide hL
  have HR := hide hr
  have HS := hide hs
  clear h hL hs hW1 b1 i1 hr
  go_enter Try.func35, Try.ntmps35
  go_wp2
  clear rg
  go_loopw [] (fun wr => ∃ T : List Nat, Hid (OmAt wr b (kp L who T) ck) ∧ Hid (wr.heap[r]? = some (.mapIter (some b) ck T.toArray ck)) ∧ Hid (T.Nodup ∧ ∀ t ∈ T, t ∈ L.map (·.bn)) ∧ Hid (But (fun g => g = b) w wr)) (fun wr => match wr.heap[r]? with | some (.mapIter _ _ seen _) => L.length - seen.size | _ => 0)
  case atStart => exact ⟨[], O1.out, IT.out, ⟨.nil, fun _ h => by cases h⟩, BT1.out⟩
  case round =>
    obtain ⟨T, OT, hr1, HT, BT⟩ := hrel
    have nx := run_next_at (P := Try.prog) wr 0 r b ck ck T.toArray ((kp L who T).map oent).toArray ck hr1.out OT.out (fun x hx => by
      obtain ⟨y, hy, rfl⟩ := List.mem_map.1 (by simpa using hx)
      exact HL.out.lt y (List.mem_filter.1 hy).1) (Nat.le_refl _)
    rcases nx with ⟨hz, hrun⟩ | ⟨e, he, w1, hw1, hrun⟩
    · have nx2 : ∀ ty, (Instr.next (.pointer (some ⟨r, 0, none⟩)) false ty).run Try.prog wr = .ok (.tuple #[.bool false]) wr := fun _ => hrun
      have KE : Hid (kp L who T = L.filter (fun e => !(e.who == who))) := kp_end (fun q hq => by
        have h0 : leftOf ((kp L who T).map oent).toArray T.toArray = #[] := Array.eq_empty_of_size_eq_zero hz
        unfold leftOf at h0
        rw [Array.filter_eq_empty_iff] at h0
        have := h0 (oent q) (by simpa using List.mem_map.2 ⟨q, hq, rfl⟩)
        simpa [oent] using this)
      clear hz hrun
      go_wp2
      go_end0
      exact ⟨rfl, by rw [← KE.out]; exact OT.out, BT.out⟩
    · obtain ⟨q, hq, hqn, rfl⟩ : ∃ q, q ∈ kp L who T ∧ q.bn ∉ T ∧ e = oent q := by
        unfold leftOf at he
        simp only [Array.toList_filter, List.mem_filter] at he
        obtain ⟨y, hy, rfl⟩ := List.mem_map.1 he.1
        exact ⟨y, hy, by simpa [oent] using he.2, rfl⟩
      have hqL : q ∈ L := (List.mem_filter.1 hq).1
      have hrw : r < wr.heap.size := (Array.getElem?_eq_some_iff.1 hr1.out).1
      have bw1 : Below wr.heap.size wr w1 := by rcases hw1 with rfl | rfl; exact Below.refl _ _; exact later_drew _
      obtain ⟨W2, hW2⟩ : ∃ W2, W2 = setBlock w1 r (.mapIter (some b) ck (T.toArray.push (oent q).born) ck) := ⟨_, rfl⟩
      have bo2 : But (Only r) w1 W2 := by rw [hW2]; exact But.blockP (K := Only r) rfl _
      have rb : r ≠ b := by have := HR.out; omega
      have rs : r ≠ s := by have := HR.out; omega
      have O2 : OmAt W2 b (kp L who T) ck := ((OT.out.but (K := fun _ => False) (But.of_below bw1) id)).but bo2 (fun e => by have e : b = r := e; omega)
      have i2 : W2.heap[r]? = some (.mapIter (some b) ck (T.toArray.push (oent q).born) ck) := by
        rw [hW2]; simp [setBlock, Nat.lt_of_lt_of_le hrw bw1.size]
      have BT2 : Hid (But (fun g => g = b) w W2) := by
        have h1 := BT.out.trans (But.of_below bw1)
        exact h1.trans' bo2 (fun g hg e => by have e : g = r := e; have := HR.out; omega)
      have en := run_entry_at (P := Try.prog) W2 r b ck T.toArray ((kp L who T).map oent).toArray ck (oent q) i2 O2 (by simpa using List.mem_map.2 ⟨q, hq, rfl⟩) (by
        have e : (((kp L who T).map oent).toArray.toList.map (·.born)) = (kp L who T).map (·.bn) := by simp [oent, Function.comp_def]
        rw [e]; exact HL.out.bn.sublist (List.filter_sublist.map _))
      rw [← hW2] at hrun
      have nx2 : ∀ ty, (Instr.next (.pointer (some ⟨r, 0, none⟩)) false ty).run Try.prog wr = .ok (.tuple #[.bool true, (oent q).key, (oent q).val]) W2 := fun _ => hrun
      simp only [oent] at nx2 en
      have HT2 : Hid ((T ++ [q.bn]).Nodup ∧ ∀ t ∈ T ++ [q.bn], t ∈ L.map (·.bn)) := by
        refine ⟨List.nodup_append.2 ⟨HT.out.1, by simp, fun a ha b hb => ?_⟩, fun t ht => ?_⟩
        · have e : b = q.bn := by simpa using hb
          rw [e]
          rintro rfl
          exact hqn ha
        · rcases List.mem_append.1 ht with h | h
          · exact HT.out.2 t h
          · rw [List.mem_singleton.1 h]; exact List.mem_map.2 ⟨q, hqL, rfl⟩
      have LT : Hid (T.length < L.length) := by
        have : (T ++ [q.bn]).length ≤ (L.map (·.bn)).length := List.Nodup.length_le_of_subset HT2.out.1 (fun x hx => HT2.out.2 x hx)
        simp at this
        exact this
      have cs2 : W2.cell? ⟨s, 0, none⟩ = some (.int .i64 who) := (BT2.out.cell (p := ⟨s, 0, none⟩) ls (fun e => hsb e)).trans HS.out
      have FR := hide (free1_any q.n q.who who s W2 cs2)
      have I2 : Hid (W2.heap[r]? = some (.mapIter (some b) ck (T ++ [q.bn]).toArray ck)) := by
        have e : (T ++ [q.bn]).toArray = T.toArray.push q.bn := by simp
        rw [e]; exact i2
      have OH := hide O2
      have KK : Hid (q.who ≠ who → kp L who (T ++ [q.bn]) = kp L who T) := fun hw => kp_keep HL.out hqL hw
      obtain ⟨di, dq, hdf⟩ := ofd_mem hq
      obtain ⟨W3, hW3⟩ : ∃ W3, W3 = setBlock W2 b (.map (((kp L who T).eraseIdx di).map oent).toArray ck) := ⟨_, rfl⟩
      have DR : ∀ ty, (Builtin.delete_ #[74, 3] ty #[.map (some b), .int .i64 q.n]).run Try.prog W2 = .ok (.tuple #[]) W3 := fun ty => by rw [hW3]; exact odel_run O2 q.n di dq hdf ty
      have O3 : Hid (q.who = who → OmAt W3 b (kp L who (T ++ [q.bn])) ck) := fun hw => by
        rw [hW3, ← kp_gone HL.out hqL hw hdf]
        exact O2.set _ ck
      have bo3 : But (Only b) W2 W3 := by rw [hW3]; exact But.blockP (K := Only b) rfl _
      have I3 : Hid (W3.heap[r]? = some (.mapIter (some b) ck (T ++ [q.bn]).toArray ck)) := by
        have hrw2 : r < W2.heap.size := (Array.getElem?_eq_some_iff.1 i2).1
        exact (bo3.block r hrw2 (fun e => rb e)).trans I2.out
      have BT3 : Hid (But (fun g => g = b) w W3) := BT2.out.trans bo3
      obtain ⟨qn, hqn'⟩ : ∃ qn, qn = q.n := ⟨_, rfl⟩
      obtain ⟨qw, hqw⟩ : ∃ qw, qw = q.who := ⟨_, rfl⟩
      obtain ⟨qb, hqb⟩ : ∃ qb, qb = q.bn := ⟨_, rfl⟩
      rw [← hqn', ← hqw] at nx2 en FR
      rw [← hqn'] at DR
      rw [← hqw] at KK O3
      rw [← hqb] at HT2 I2 KK O3 I3
      clear hrun i2 hW2 bw1 hw1 he O2 hq hqn hqL hW3 bo3 bo2 hdf cs2 hqn' hqw hqb
      go_wp2_with fail
      refine FR.out.mono ?_
      rintro _ wx ⟨rfl, hw⟩
      rw [hw]
      clear hw wx FR nx2 en
      by_cases e : qw = who
      · have z : (qw == who) = true := by simpa using e
        have O4 := hide (O3.out e)
        clear e KK O3
        go_wp2
        go_roundw
        case rel => exact ⟨T ++ [qb], O4.out, I3.out, HT2.out, BT3.out⟩
        case measure =>
          rw [hr1.out, I3.out]
          have := LT.out
          simp
          omega
      · have z : (qw == who) = false := by simpa using e
        have KE := hide (KK.out e)
        clear e KK O3 DR
        go_wp2
        go_roundw
        case rel => exact ⟨T ++ [qb], by rw [KE.out]; exact OH.out, I2.out, HT2.out, BT2.out⟩
        case measure =>
          rw [hr1.out, I2.out]
          have := LT.out
          simp
          omega
theorem uFree_any {w : World} {b ck : Nat} {L : List Po} {nx : Int} (h : PoAt w b L ck nx) (hL : OOk L ck) (who : Int) : Calls Try.prog 14 #[.pointer (some ⟨b + 1, 0, none⟩), .int .i64 who] w fun e w' => e = .returned (.tuple #[]) ∧ PoAt w' b (L.filter (fun e => !(e.who == who))) ck nx ∧ But (PoK b) w w' := by
  obtain ⟨s, hs⟩ : ∃ s, s = w.heap.size := ⟨_, rfl⟩
  obtain ⟨w1, hw1⟩ : ∃ w1, w1 = w.alloc (.cells #[.int .i64 who] 3) := ⟨_, rfl⟩
  have b1 : Below w.heap.size w w1 := by rw [hw1]; exact later_alloc _ _
  have h1 := h.later b1
  have cs : w1.cell? ⟨s, 0, none⟩ = some (.int .i64 who) := by rw [hw1, hs]; exact (CellsAt.new w [.int .i64 who] _) 0 _ rfl
  have sb : s ≠ b := by have := h.lt; omega
  have c0 := h1.c0
  have DF := hide (delF_any h1.map hL who s cs sb)
  have FIN : Hid (∀ w2, OmAt w2 b (L.filter (fun e => !(e.who == who))) ck → But (Only b) w1 w2 → PoAt w2 b (L.filter (fun e => !(e.who == who))) ck nx ∧ But (PoK b) w w2) := fun w2 hm hb => by
    have hl := h1.lt
    have k1 : ¬ Only b (b + 1) := fun e => by have e : b + 1 = b := e; omega
    exact ⟨⟨(hb.cell (p := ⟨b + 1, 0, none⟩) hl k1).trans h1.c0, (hb.cell (p := ⟨b + 1, 1, none⟩) hl k1).trans h1.c1, fun y => (hb.frozen (p := ⟨b + 1, y, none⟩) hl k1).trans (h1.fz y), hm⟩, (But.of_below b1).trans (hb.mono (fun g e => .inl e))⟩
  have hw1' := hw1.symm
  have hs' := hs.symm
  clear hw1 hs b1 h1 sb h hL
  go_enter Try.func14, Try.ntmps14
  go_wp2_with fail
  clear hw1' hs'
  refine DF.out.mono ?_
  rintro _ w2 ⟨rfl, m2, b2⟩
  have P2 := hide (FIN.out w2 m2 b2)
  clear m2 b2 DF FIN
  go_wp2
  go_end0
  exact ⟨rfl, P2.out.1, P2.out.2⟩
end Go.Proofs.Ythjeaebpboilpaa
