
/-
  Package tcp: head, Decode.
-/
import Derived.Test.YtggadchhkenipaaD10
namespace Go.Proofs.Ytggadchhkenipaa
open Go.RowKit Go.Shelf

def zSg : Sg := ⟨0, 0, 0, 0, 0, 0, 0, false, [], []⟩
def tdH (bs : List Int) : Sg := ⟨w16 bs 0, w16 bs 2, w32 bs 4, w32 bs 8, w16 bs 12 % 32, w16 bs 14, 0, false, [], []⟩
theorem sg_one (s : Sg) (gv dv : Value) (hg : gv.oneCell' = true) (hd : dv.oneCell' = true) : ∀ u ∈ s.cells gv dv, u.oneCell' = true := by
  intro u hu
  simp only [Sg.cells, List.mem_cons, List.not_mem_nil, or_false] at hu
  rcases hu with rfl | rfl | rfl | rfl | rfl | rfl | rfl | rfl | rfl | rfl
  · rfl
  · rfl
  · rfl
  · rfl
  · rfl
  · rfl
  · rfl
  · rfl
  · exact hg
  · exact hd
section
variable {o : Oper} {w : World} {ev : Operand → Value}
theorem exec_and31 (x : Operand) (t : TypeId) (n : Int) (ho : o.op = .binOp .and 3 x (.const (.int .i64 31)) t) (hc : ∀ v, ev (.const v) = v) (hx : ev x = .int .i64 n) (h0 : 0 ≤ n) (h1 : n ≤ 65535) : (execOp ev o).run Try.prog w = .ok (.value (.int .i64 (n % 32))) w := by
  have e := and_31 n h0 h1
  unfold execOp
  simp [ho, hx, hc, go_sem, e]
theorem exec_bldH (x0 x1 x2 x3 x4 x5 : Operand) (a b c d e f : Int) (ho : o.op = .build 26 #[(0, x0), (1, x1), (2, x2), (3, x3), (4, x4), (5, x5)]) (h0 : ev x0 = .int .i64 a) (h1 : ev x1 = .int .i64 b) (h2 : ev x2 = .int .u32 c) (h3 : ev x3 = .int .u32 d) (h4 : ev x4 = .int .i64 e) (h5 : ev x5 = .int .i64 f) :
    (execOp ev o).run Try.prog w = .ok (.value (.agg (Sg.cells ⟨a, b, c, d, e, f, 0, false, [], []⟩ (.slice none 0 0) (.slice none 0 0)).toArray)) w := by
  unfold execOp
  rw [ho]
  simp only [List.map_toArray, List.map_cons, List.map_nil, h0, h1, h2, h3, h4, h5]
  kernel_rfl
theorem exec_bldZ (ho : o.op = .build 26 #[]) : (execOp ev o).run Try.prog w = .ok (.value (.agg (zSg.cells (.slice none 0 0) (.slice none 0 0)).toArray)) w := by
  unfold execOp
  rw [ho]
  kernel_rfl
/-- from k on -/
theorem exec_slV (x y : Operand) (g off n c k : Nat) (ad : Option Addr) (had : ad = if c = k then some (⟨g, off, none⟩ : Addr) else some ⟨g, off + k, none⟩) (ho : o.op = .slice 24 x (some y) none none) (hx : ev x = .slice (some ⟨g, off, none⟩) n c) (hy : ev y = .int .i64 (k : Int)) (hk : k ≤ n) : (execOp ev o).run Try.prog w = .ok (.value (.slice ad (n - k) (c - k))) w := by
  have h3 : (k : Int) ≤ n := by omega
  rw [had]
  unfold execOp
  simp [ho, hx, hy, go_sem, h3]
end
theorem drop_addrT {g off c k : Nat} : (if c = k then some (⟨g, off, none⟩ : Addr) else Option.map (fun x : Addr => x.add k) (some ⟨g, off, none⟩)) = (if c = k then some ⟨g, off, none⟩ else some ⟨g, off + k, none⟩) := by
  split
  · rfl
  · rw [Option.map_some, Addr.add_lit]
set_option maxRecDepth 100000 in
set_option maxHeartbeats 4000000 in
theorem headT_any (v : Value) (bs : List Int) (w : World) (hb : IsB w.heap.size w v bs) (hB : Bytes bs) (hl : (bs.length : Int) ≤ 4611686018427387904) (h20 : 20 ≤ bs.length) :
    Calls Try.prog 38 #[v] w fun e w' => e = .returned (.agg ((tdH bs).cells (.slice none 0 0) (.slice none 0 0)).toArray) ∧ Below w.heap.size w w' := by
  obtain ⟨a, c, rfl, _⟩ := hb.shape
  obtain ⟨s2, hs2⟩ : ∃ s2, s2 = w.heap.size := ⟨_, rfl⟩
  obtain ⟨w1, hw1⟩ : ∃ w1, w1 = w.alloc (.cells (zSg.cells (.slice none 0 0) (.slice none 0 0)).toArray 26) := ⟨_, rfl⟩
  have b1 : Below w.heap.size w w1 := by rw [hw1]; exact later_alloc _ _
  have c1 : CellsAt w1 s2 0 (zSg.cells (.slice none 0 0) (.slice none 0 0)) := by rw [hw1, hs2]; exact CellsAt.new w _ _
  have f1 : ∀ y, w1.frozen? ⟨s2, y, none⟩ = false := fun y => by rw [hw1, hs2]; exact frozen_new w _ _ _
  have l1 : s2 < w1.heap.size := by rw [hw1, hs2]; simp
  have A16 : Hid (∀ (k : Nat) (W : World), k + 2 ≤ 20 → Below w1.heap.size w1 W → Calls Try.prog 57 #[.slice a bs.length c, .int .i64 (k : Int)] W fun e w' => e = .returned (.int .i64 (w16 bs k)) ∧ Below W.heap.size W w') := fun k W hk hW => at16_any _ bs k W ((hb.later b1).later hW) hB hl (by omega)
  have A32 : Hid (∀ (k : Nat) (W : World), k + 4 ≤ 20 → Below w1.heap.size w1 W → Calls Try.prog 58 #[.slice a bs.length c, .int .i64 (k : Int)] W fun e w' => e = .returned (.int .u32 (w32 bs k)) ∧ Below W.heap.size W w') := fun k W hk hW => at32_any _ bs k W ((hb.later b1).later hW) hB hl (by omega)
  obtain ⟨g0, g1⟩ := w16_bd hB 12
  obtain ⟨p0, hp0⟩ : ∃ p, p = w16 bs 0 := ⟨_, rfl⟩
  obtain ⟨p2, hp2⟩ : ∃ p, p = w16 bs 2 := ⟨_, rfl⟩
  obtain ⟨p4, hp4⟩ : ∃ p, p = w32 bs 4 := ⟨_, rfl⟩
  obtain ⟨p8, hp8⟩ : ∃ p, p = w32 bs 8 := ⟨_, rfl⟩
  obtain ⟨pf, hpf⟩ : ∃ p, p = w16 bs 12 := ⟨_, rfl⟩
  obtain ⟨pw, hpw⟩ : ∃ p, p = w16 bs 14 := ⟨_, rfl⟩
  have HH : Hid (tdH bs = ⟨p0, p2, p4, p8, pf % 32, pw, 0, false, [], []⟩) := by rw [hp0, hp2, hp4, hp8, hpf, hpw]; exact rfl
  have HP2 := hide hp2
  have HP4 := hide hp4
  have HP8 := hide hp8
  have HPF := hide hpf
  have HPW := hide hpw
  rw [← hpf] at g0 g1
  have A0 := hide (A16.out 0 w1 (by decide) (Below.refl _ _))
  rw [← hp0] at A0
  have B1 := hide b1
  have C1 := hide c1
  have F1 := hide f1
  obtain ⟨n, hn⟩ : ∃ n, n = bs.length := ⟨_, rfl⟩
  rw [← hn] at A0 A16 A32 ⊢
  rw [HH.out]
  have HS2 := hide hs2
  have hs2' := hs2.symm
  have hw1' : w.alloc (.cells #[.int .i64 0, .int .i64 0, .int .u32 0, .int .u32 0, .int .i64 0, .int .i64 0, .int .i64 0, .bool false, .slice none 0 0, .slice none 0 0] 26) = w1 := by rw [hw1]; rfl
  clear hs2 hw1 b1 c1 f1 hb hB hl h20 hn hp0 hp2 hp4 hp8 hpf hpw HH
  go_enter Try.func38, Try.ntmps38
  go_wp2_with fail
  clear hs2' hw1'
  refine A0.out.mono ?_
  rintro _ w2 ⟨rfl, b2⟩
  have B2 := hide b2
  have A2 := hide (A16.out 2 w2 (by decide) b2)
  rw [← HP2.out] at A2
  clear b2 A0
  go_wp2_with fail
  refine A2.out.mono ?_
  rintro _ w3 ⟨rfl, b3⟩
  have B3 := hide (later B2.out b3)
  have A4 := hide (A32.out 4 w3 (by decide) B3.out)
  rw [← HP4.out] at A4
  clear b3 A2 B2
  go_wp2_with fail
  refine A4.out.mono ?_
  rintro _ w4 ⟨rfl, b4⟩
  have B4 := hide (later B3.out b4)
  have A8 := hide (A32.out 8 w4 (by decide) B4.out)
  rw [← HP8.out] at A8
  clear b4 A4 B3
  go_wp2_with fail
  refine A8.out.mono ?_
  rintro _ w5 ⟨rfl, b5⟩
  have B5 := hide (later B4.out b5)
  have AF := hide (A16.out 12 w5 (by decide) B5.out)
  rw [← HPF.out] at AF
  clear b5 A8 B4
  go_wp2_with fail
  refine AF.out.mono ?_
  rintro _ w6 ⟨rfl, b6⟩
  have B6 := hide (later B5.out b6)
  have AW := hide (A16.out 14 w6 (by decide) B6.out)
  rw [← HPW.out] at AW
  clear b6 AF B5
  go_wp2_with (refine wpList_val rfl (exec_and31 _ _ pf rfl (fun _ => rfl) rfl g0 g1) ?_)
  refine AW.out.mono ?_
  rintro _ w7 ⟨rfl, b7⟩
  have B7 := hide (later B6.out b7)
  have C7 := hide (C1.out.later l1 B7.out)
  have F7 : Hid (∀ y, w7.frozen? ⟨s2, y, none⟩ = false) := fun y => (B7.out.frozen (p := ⟨s2, y, none⟩) l1).trans (F1.out y)
  obtain ⟨S, hS⟩ : ∃ S : Sg, S = ⟨p0, p2, p4, p8, pf % 32, pw, 0, false, [], []⟩ := ⟨_, rfl⟩
  obtain ⟨K, hK⟩ : ∃ K, K = S.cells (.slice none 0 0) (.slice none 0 0) := ⟨_, rfl⟩
  have LK : Hid (K.length = 10) := by rw [hK]; exact rfl
  have OK : Hid (∀ u ∈ K, u.oneCell' = true) := by rw [hK]; exact sg_one _ _ _ rfl rfl
  have BLD : Hid (∀ (o : Oper) (ev : Operand → Value) (x0 x1 x2 x3 x4 x5 : Operand), o.op = .build 26 #[(0, x0), (1, x1), (2, x2), (3, x3), (4, x4), (5, x5)] → ev x0 = .int .i64 p0 → ev x1 = .int .i64 p2 → ev x2 = .int .u32 p4 → ev x3 = .int .u32 p8 → ev x4 = .int .i64 (pf % 32) → ev x5 = .int .i64 pw → (execOp ev o).run Try.prog w7 = .ok (.value (.agg K.toArray)) w7) := fun o ev x0 x1 x2 x3 x4 x5 ho h0 h1 h2 h3 h4 h5 => by
    rw [hK, hS]
    exact exec_bldH x0 x1 x2 x3 x4 x5 _ _ _ _ _ _ ho h0 h1 h2 h3 h4 h5
  obtain ⟨w8, hw8⟩ : ∃ w8, w8 = w7.setCells s2 0 K := ⟨_, rfl⟩
  have C8 : Hid (CellsAt w8 s2 0 K) := by rw [hw8]; exact C7.out.stored (by rw [LK.out]; rfl)
  have nb8 : But (Only s2) w7 w8 := by rw [hw8]; exact But.cells s2 K 0 w7
  have B8 : Hid (Below w.heap.size w w8) := (later B1.out B7.out).trans (nb8.below (later B1.out B7.out).size (fun g hg e => by have e : g = s2 := e; have := HS2.out; omega))
  have HK := hide hK
  have HS := hide hS
  have hw8' := hw8.symm
  clear b7 AW B6 hK hS hw8 nb8
  go_wp2_with (first | refine wpList_val rfl (BLD.out _ _ _ _ _ _ _ _ rfl rfl rfl rfl rfl rfl rfl) ?_ | (refine wpList_storeA rfl 26 10 sizSg _ _ rfl s2 0 rfl K (zSg.cells (.slice none 0 0) (.slice none 0 0)) rfl LK.out rfl C7.out F7.out OK.out ?_; intro _; rw [hw8']))
  refine bodyPost_ret (v := .agg K.toArray) (results_A rfl _ _ s2 _ rfl (run_loadVarA 26 10 aggSg sizSg s2 0 _ LK.out C8.out)) rfl ?_
  exact ⟨by rw [HK.out, HS.out], B8.out⟩
end Go.Proofs.Ytggadchhkenipaa
