
/-
  The document's cache: Find, where the neighbour is not there and eight are.
-/
import Derived.Test.YtdcpnjlldocdcaaC11
namespace Go.Proofs.Ytdcpnjlldocdcaa
open Go.RowKit Go.Shelf
/-- the place that 'old' tells, or -1 -/
def oI (o : Option Nat) : Int := match o with
  | none => -1
  | some j => (j : Int)
theorem old_ask {L : List Nb} {q : Nat} {x : Nb} (hx : L[q]? = some x) (h : x.st = 1) : old L (q + 1) = old L q := by
  rw [old, hx]
  simp only [if_pos h]
theorem old_new {L : List Nb} {q : Nat} {x : Nb} (hx : L[q]? = some x) (h : ¬ x.st = 1) (ho : old L q = none) : old L (q + 1) = some q := by
  rw [old, hx]
  simp only [if_neg h, ho]
theorem old_two {L : List Nb} {q j : Nat} {x y : Nb} (hx : L[q]? = some x) (h : ¬ x.st = 1) (ho : old L q = some j) (hy : L[j]? = some y) : old L (q + 1) = if y.since ≤ x.since then some j else some q := by
  rw [old, hx]
  simp only [if_neg h, ho, hy, Option.map_some, Option.getD_some]
section
variable {ρ : Nat → Role} {k : Nat} {W : World} {b : Nat} {m : M6} {i : I4} {lv : Value} {Lt : List (Nat × Nb)} {L : List Nb}
set_option maxRecDepth 100000 in
set_option maxHeartbeats 2000000 in
theorem rfind_full (h : CAt ρ k W b m i lv Lt) (hF : Fit ρ W) (now buf : Int) (hok : LOk now (Lt.map Prod.snd)) (ip : I4) (hf : fndI ip (Lt.map Prod.snd) = none) (hl8 : Lt.length = 8) :
    Calls Try.prog 27 #[.pointer (some ⟨b, 0, none⟩), ip.val, .int .i64 buf, .int .i64 now] W (FdEnd ρ k W b m i ip (fd ip buf now (Lt.map Prod.snd))) := by
  have hlen : Lt.length ≤ 8 := by have := hok.len; simpa using this
  obtain ⟨s, hs⟩ : ∃ s, s = W.heap.size := ⟨_, rfl⟩
  obtain ⟨w1, hw1⟩ : ∃ w1, w1 = (W.alloc (.cells #[.int .u8 ip.a, .int .u8 ip.b, .int .u8 ip.c, .int .u8 ip.d] 25)).alloc (.cells #[.int .u8 0, .int .u8 0, .int .u8 0, .int .u8 0, .int .u8 0, .int .u8 0] 23) := ⟨_, rfl⟩
  have hb1 : Below W.heap.size W w1 := by rw [hw1]; exact ((Below.refl _ W).alloc (Nat.le_refl _) _).alloc (by simp) _
  have sz1 : w1.heap.size = s + 2 := by rw [hw1]; simp [hs]
  have ci1 : CellsAt w1 s 0 ip.vals := by
    rw [hw1, hs]
    exact (CellsAt.new W ip.vals 25).but (by simp) ((But.refl (fun _ => False) _).alloc _) id
  have cm1 : CellsAt w1 (s + 1) 0 zM.vals := by
    have := CellsAt.new (W.alloc (.cells #[.int .u8 ip.a, .int .u8 ip.b, .int .u8 ip.c, .int .u8 ip.d] 25)) zM.vals 23
    rw [World.size_alloc, ← hs] at this
    rw [hw1]; exact this
  have fm1 : ∀ j, w1.frozen? ⟨s + 1, j, none⟩ = false := fun j => by
    have := frozen_new (W.alloc (.cells #[.int .u8 ip.a, .int .u8 ip.b, .int .u8 ip.c, .int .u8 ip.d] 25)) #[.int .u8 0, .int .u8 0, .int .u8 0, .int .u8 0, .int .u8 0, .int .u8 0] 23 j
    rw [World.size_alloc, ← hs] at this
    rw [hw1]; exact this
  have NB := at_any (h.later hb1) (by omega) ip
  have HNB := hide NB
  have H1 := hide (h.later hb1)
  have F1 := hide (hF.below hb1.size)
  have HB1 := hide hb1
  have CI := hide ci1
  have CM := hide cm1
  have FM := hide fm1
  have SZ := hide sz1
  have HS := hide hs
  have HOK := hide hok
  have HF0 := hide hF
  clear NB hb1 ci1 cm1 fm1 sz1 hF
  rw [show ip.val = .agg #[.int .u8 ip.a, .int .u8 ip.b, .int .u8 ip.c, .int .u8 ip.d] from rfl] at HNB ⊢
  go_enter Try.func27, Try.ntmps27
  have hw1' := hw1.symm
  have hs' := hs.symm
  clear hw1 hs
  have i0 := CI.out 0 _ rfl
  have i1 := CI.out 1 _ rfl
  have i2 := CI.out 2 _ rfl
  have i3 := CI.out 3 _ rfl
  simp only [Nat.zero_add] at i0 i1 i2 i3
  go_wp2_with fail
  clear hw1' hs' i0 i1 i2 i3
  refine HNB.out.mono ?_
  rintro _ w3 ⟨rfl, hb2⟩
  have sL1 : s < w1.heap.size := by have := SZ.out; omega
  have tL1 : s + 1 < w1.heap.size := by have := SZ.out; omega
  have H3 := hide (H1.out.later hb2)
  have F3 := hide (F1.out.below hb2.size)
  have CI3 := hide (CI.out.later sL1 hb2)
  have CM3 := hide (CM.out.later tL1 hb2)
  have FM3 : Hid (∀ j, w3.frozen? ⟨s + 1, j, none⟩ = false) := fun j => (hb2.frozen (p := ⟨s + 1, j, none⟩) tL1).trans (FM.out j)
  have M3 : Hid (Mv k ρ ρ W w3) := Mv.below (HB1.out.trans (hb2.mono HB1.out.size))
  have SZ3 : Hid (s + 2 ≤ w3.heap.size) := by have := SZ.out; have := hb2.size; unfold Hid; omega
  have RT : Hid (ρ (s + 1) = (0, 0, 0)) := HF0.out (s + 1) (by have := HS.out; omega)
  clear HNB H1 F1 CI CM FM hb2 sL1 tL1
  have ea : atI ip (Lt.map Prod.snd) = -1 := by unfold atI; rw [hf]
  rw [ea]
  clear ea
  obtain ⟨V, hR3, hP3⟩ := H3.out.row.parts
  obtain ⟨a9, c, hlv, -⟩ := H3.out.row
  rw [hlv] at hR3
  obtain ⟨g, eg, hg3, hrg, hfz, hcs⟩ := hR3.at (by omega)
  cases eg
  have hlv : lv = .slice (some ⟨g, 0, none⟩) 8 c := by rw [← hl8]; exact hlv
  have xl : w3.cell? ⟨b, 10, none⟩ = some (.slice (some ⟨g, 0, none⟩) 8 c) := by rw [← hlv]; exact H3.out.lst
  have CS : Hid (∀ (W' : World), Below w3.heap.size w3 W' → W'.cell? ⟨b, 10, none⟩ = some (.slice (some ⟨g, 0, none⟩) 8 c) ∧ ∀ q x, (Lt.map Prod.snd)[q]? = some x → W'.cell? ⟨g, q * 15 + 4, none⟩ = some (.int .i64 x.st) ∧ W'.cell? ⟨g, q * 15 + 11, none⟩ = some (.int .i64 x.since)) := fun W' hb => by
    refine ⟨(hb.cell (p := ⟨b, 10, none⟩) H3.out.lt).trans xl, fun q x hx => ?_⟩
    obtain ⟨t, hq⟩ := get_snd hx
    have cx := hcs q (List.getElem?_eq_some_iff.1 hq).1
    rw [nbc_at hq] at cx
    exact ⟨(hb.cell (p := ⟨g, q * 15 + 4, none⟩) hg3).trans (cx 4 _ rfl), (hb.cell (p := ⟨g, q * 15 + 11, none⟩) hg3).trans (cx 11 _ rfl)⟩
  have HLV := hide hlv
  have HL8 := hide hl8
  have HF := hide hf
  obtain ⟨Lx, hLx⟩ : ∃ Lx, Lx = Lt.map Prod.snd := ⟨_, rfl⟩
  rw [← hLx] at CS
  have HLX := hide hLx
  have LEN8 : Hid (Lx.length = 8) := by unfold Hid; rw [hLx, List.length_map]; exact hl8
  clear hf hl8 hR3 hP3 hcs hfz hrg hg3 hlv hLx hlen hok
  go_wp2
  clear xl
  go_loopw [16, 17] (fun v16 v17 wr => ∃ q : Nat, v17 = .int .i64 (q : Int) ∧ v16 = .int .i64 (oI (old Lx q)) ∧ q ≤ 8 ∧ Hid (Below w3.heap.size w3 wr)) (fun _ v17 _ => 8 - (intOf v17).toNat)
  case atStart => exact ⟨0, rfl, rfl, by omega, Below.refl _ _⟩
  case round =>
    obtain ⟨q, rfl, rfl, hq, HB⟩ := hrel
    obtain ⟨oq, hoq⟩ : ∃ oq, oq = old Lx q := ⟨_, rfl⟩
    rw [← hoq]
    by_cases hlt : q < 8
    · obtain ⟨x, hx⟩ : ∃ x, Lx[q]? = some x := ⟨_, List.getElem?_eq_getElem (by rw [LEN8.out]; omega)⟩
      obtain ⟨wd, hwd⟩ : ∃ wd, wd = wr.drew := ⟨_, rfl⟩
      have BD : Hid (Below w3.heap.size w3 wd) := by unfold Hid; rw [hwd]; exact HB.out.trans ((Below.refl _ wr).drew.mono HB.out.size)
      obtain ⟨xl0, cs0⟩ := CS.out wd BD.out
      obtain ⟨x4, x11⟩ := cs0 q x hx
      have zq : (q : Int) < 8 := by omega
      have HX := hide hx
      have HOQ := hide hoq
      have NX : Hid (∀ o : Option Nat, old Lx (q + 1) = o → ∃ q' : Nat, Value.int .i64 ((q : Int) + 1) = .int .i64 (q' : Int) ∧ Value.int .i64 (oI o) = .int .i64 (oI (old Lx q')) ∧ q' ≤ 8 ∧ Hid (Below w3.heap.size w3 wd)) := fun o e => ⟨q + 1, val_int (by omega), by rw [e], by omega, BD.out⟩
      go_upto_region 24 with fail
      by_cases hs1 : x.st = 1
      · have eo : old Lx (q + 1) = oq := by rw [old_ask hx hs1, hoq]
        have S0 : wd.cell? ⟨b, 10, none⟩ = some (.slice (some ⟨g, 0, none⟩) 8 c) ∧ wd.cell? ⟨g, q * 15 + 4, none⟩ = some (.int .i64 1) := ⟨xl0, by rw [← hs1]; exact x4⟩
        have GO := hide (NX.out oq eo)
        clear NX eo xl0 cs0 x4 x11 hx hoq hs1
        refine region_out (fun W' => W'.cell? ⟨b, 10, none⟩ = some (.slice (some ⟨g, 0, none⟩) 8 c) ∧ W'.cell? ⟨g, q * 15 + 4, none⟩ = some (.int .i64 1)) (by kernel_rfl) ?_
        rw [← hwd]
        refine takeD (i := 0) (v := .pointer (some ⟨b, 0, none⟩)) 139 rfl rfl (by kernel_rfl) (by kernel_rfl) (by kernel_rfl) (fun _ _ _ h => h) (.inl ⟨by rfl, fun W hW => exec_move _ _ rfl rfl⟩) (S0) ?_
        try simp only [Act.put, List.setIfInBounds_toArray, List.set_cons_zero, List.set_cons_succ]
        refine takeD (i := 1) (v := .pointer (some ⟨b, 0, none⟩)) 140 rfl rfl (by kernel_rfl) (by kernel_rfl) (by kernel_rfl) (fun _ _ _ h => h) (.inl ⟨by rfl, fun W hW => exec_nil _ _ rfl rfl⟩) (S0) ?_
        try simp only [Act.put, List.setIfInBounds_toArray, List.set_cons_zero, List.set_cons_succ]
        refine takeD (i := 2) (v := .pointer (some ⟨b, 10, none⟩)) 141 rfl rfl (by kernel_rfl) (by kernel_rfl) (by kernel_rfl) (fun _ _ _ h => h) (.inl ⟨by rfl, fun W hW => exec_fieldO 43 _ 2 b 0 10 rfl rfl (fun w => by kernel_rfl)⟩) (S0) ?_
        try simp only [Act.put, List.setIfInBounds_toArray, List.set_cons_zero, List.set_cons_succ]
        refine takeD (i := 3) (v := .slice (some ⟨g, 0, none⟩) 8 c) 142 rfl rfl (by kernel_rfl) (by kernel_rfl) (by kernel_rfl) (fun _ _ _ h => h) (.inl ⟨by rfl, fun W hW => exec_load1 41 oneL _ rfl b 10 rfl (.slice (some ⟨g, 0, none⟩) 8 c) (hW.1)⟩) (S0) ?_
        try simp only [Act.put, List.setIfInBounds_toArray, List.set_cons_zero, List.set_cons_succ]
        refine takeD (i := 4) (v := .int .i64 (q : Int)) 143 rfl rfl (by kernel_rfl) (by kernel_rfl) (by kernel_rfl) (fun _ _ _ h => h) (.inl ⟨by rfl, fun W hW => exec_move _ _ rfl rfl⟩) (S0) ?_
        try simp only [Act.put, List.setIfInBounds_toArray, List.set_cons_zero, List.set_cons_succ]
        refine takeD (i := 5) (v := .pointer (some ⟨g, q * 15, none⟩)) 144 rfl rfl (by kernel_rfl) (by kernel_rfl) (by kernel_rfl) (fun _ _ _ h => h) (.inl ⟨by rfl, fun W hW => exec_ixL _ _ g 8 c q rfl rfl rfl hlt⟩) (S0) ?_
        try simp only [Act.put, List.setIfInBounds_toArray, List.set_cons_zero, List.set_cons_succ]
        refine takeD (i := 6) (v := .pointer (some ⟨g, q * 15 + 4, none⟩)) 145 rfl rfl (by kernel_rfl) (by kernel_rfl) (by kernel_rfl) (fun _ _ _ h => h) (.inl ⟨by rfl, fun W hW => exec_fieldO 66 _ 1 g (q * 15) (q * 15 + 4) rfl rfl (fun w => by kernel_rfl)⟩) (S0) ?_
        try simp only [Act.put, List.setIfInBounds_toArray, List.set_cons_zero, List.set_cons_succ]
        refine takeD (i := 7) (v := .int .i64 1) 146 rfl rfl (by kernel_rfl) (by kernel_rfl) (by kernel_rfl) (fun _ _ _ h => h) (.inl ⟨by rfl, fun W hW => exec_load1 3 one1 _ rfl g (q * 15 + 4) rfl (.int .i64 1) (hW.2)⟩) (S0) ?_
        try simp only [Act.put, List.setIfInBounds_toArray, List.set_cons_zero, List.set_cons_succ]
        refine takeD (i := 8) (v := .bool false) 147 rfl rfl (by kernel_rfl) (by kernel_rfl) (by kernel_rfl) (fun _ _ _ h => h) (.inl ⟨by rfl, fun W hW => exec_nei _ _ _ 1 1 _ rfl rfl rfl rfl⟩) (S0) ?_
        try simp only [Act.put, List.setIfInBounds_toArray, List.set_cons_zero, List.set_cons_succ]
        refine takeD (i := 9) (v := .bool false) 148 rfl rfl (by kernel_rfl) (by kernel_rfl) (by kernel_rfl) (fun _ _ _ h => h) (.inl ⟨by rfl, fun W hW => exec_move _ _ rfl rfl⟩) (S0) ?_
        try simp only [Act.put, List.setIfInBounds_toArray, List.set_cons_zero, List.set_cons_succ]
        refine takeD (i := 10) (v := undef) 149 rfl rfl (by kernel_rfl) (by kernel_rfl) (by kernel_rfl) (fun _ _ _ h => h) (.inr ⟨by rfl, rfl⟩) (S0) ?_
        try simp only [Act.put, List.setIfInBounds_toArray, List.set_cons_zero, List.set_cons_succ]
        refine takeD (i := 11) (v := undef) 150 rfl rfl (by kernel_rfl) (by kernel_rfl) (by kernel_rfl) (fun _ _ _ h => h) (.inr ⟨by rfl, rfl⟩) (S0) ?_
        try simp only [Act.put, List.setIfInBounds_toArray, List.set_cons_zero, List.set_cons_succ]
        refine takeD (i := 12) (v := undef) 151 rfl rfl (by kernel_rfl) (by kernel_rfl) (by kernel_rfl) (fun _ _ _ h => h) (.inr ⟨by rfl, rfl⟩) (S0) ?_
        try simp only [Act.put, List.setIfInBounds_toArray, List.set_cons_zero, List.set_cons_succ]
        refine takeD (i := 13) (v := undef) 152 rfl rfl (by kernel_rfl) (by kernel_rfl) (by kernel_rfl) (fun _ _ _ h => h) (.inr ⟨by rfl, rfl⟩) (S0) ?_
        try simp only [Act.put, List.setIfInBounds_toArray, List.set_cons_zero, List.set_cons_succ]
        refine takeD (i := 14) (v := undef) 153 rfl rfl (by kernel_rfl) (by kernel_rfl) (by kernel_rfl) (fun _ _ _ h => h) (.inr ⟨by rfl, rfl⟩) (S0) ?_
        try simp only [Act.put, List.setIfInBounds_toArray, List.set_cons_zero, List.set_cons_succ]
        refine takeD (i := 15) (v := undef) 154 rfl rfl (by kernel_rfl) (by kernel_rfl) (by kernel_rfl) (fun _ _ _ h => h) (.inr ⟨by rfl, rfl⟩) (S0) ?_
        try simp only [Act.put, List.setIfInBounds_toArray, List.set_cons_zero, List.set_cons_succ]
        refine takeD (i := 16) (v := undef) 155 rfl rfl (by kernel_rfl) (by kernel_rfl) (by kernel_rfl) (fun _ _ _ h => h) (.inr ⟨by rfl, rfl⟩) (S0) ?_
        try simp only [Act.put, List.setIfInBounds_toArray, List.set_cons_zero, List.set_cons_succ]
        refine takeD (i := 17) (v := undef) 156 rfl rfl (by kernel_rfl) (by kernel_rfl) (by kernel_rfl) (fun _ _ _ h => h) (.inr ⟨by rfl, rfl⟩) (S0) ?_
        try simp only [Act.put, List.setIfInBounds_toArray, List.set_cons_zero, List.set_cons_succ]
        refine takeD (i := 18) (v := undef) 157 rfl rfl (by kernel_rfl) (by kernel_rfl) (by kernel_rfl) (fun _ _ _ h => h) (.inr ⟨by rfl, rfl⟩) (S0) ?_
        try simp only [Act.put, List.setIfInBounds_toArray, List.set_cons_zero, List.set_cons_succ]
        refine takeD (i := 19) (v := undef) 158 rfl rfl (by kernel_rfl) (by kernel_rfl) (by kernel_rfl) (fun _ _ _ h => h) (.inr ⟨by rfl, rfl⟩) (S0) ?_
        try simp only [Act.put, List.setIfInBounds_toArray, List.set_cons_zero, List.set_cons_succ]
        refine takeD (i := 20) (v := undef) 159 rfl rfl (by kernel_rfl) (by kernel_rfl) (by kernel_rfl) (fun _ _ _ h => h) (.inr ⟨by rfl, rfl⟩) (S0) ?_
        try simp only [Act.put, List.setIfInBounds_toArray, List.set_cons_zero, List.set_cons_succ]
        refine takeD (i := 21) (v := undef) 160 rfl rfl (by kernel_rfl) (by kernel_rfl) (by kernel_rfl) (fun _ _ _ h => h) (.inr ⟨by rfl, rfl⟩) (S0) ?_
        try simp only [Act.put, List.setIfInBounds_toArray, List.set_cons_zero, List.set_cons_succ]
        refine takeD (i := 22) (v := undef) 161 rfl rfl (by kernel_rfl) (by kernel_rfl) (by kernel_rfl) (fun _ _ _ h => h) (.inr ⟨by rfl, rfl⟩) (S0) ?_
        try simp only [Act.put, List.setIfInBounds_toArray, List.set_cons_zero, List.set_cons_succ]
        refine takeD (i := 23) (v := undef) 162 rfl rfl (by kernel_rfl) (by kernel_rfl) (by kernel_rfl) (fun _ _ _ h => h) (.inr ⟨by rfl, rfl⟩) (S0) ?_
        try simp only [Act.put, List.setIfInBounds_toArray, List.set_cons_zero, List.set_cons_succ]
        refine takeD (i := 24) (v := undef) 163 rfl rfl (by kernel_rfl) (by kernel_rfl) (by kernel_rfl) (fun _ _ _ h => h) (.inr ⟨by rfl, rfl⟩) (S0) ?_
        try simp only [Act.put, List.setIfInBounds_toArray, List.set_cons_zero, List.set_cons_succ]
        refine takeD (i := 25) (v := undef) 164 rfl rfl (by kernel_rfl) (by kernel_rfl) (by kernel_rfl) (fun _ _ _ h => h) (.inr ⟨by rfl, rfl⟩) (S0) ?_
        try simp only [Act.put, List.setIfInBounds_toArray, List.set_cons_zero, List.set_cons_succ]
        refine takeD (i := 26) (v := undef) 165 rfl rfl (by kernel_rfl) (by kernel_rfl) (by kernel_rfl) (fun _ _ _ h => h) (.inr ⟨by rfl, rfl⟩) (S0) ?_
        try simp only [Act.put, List.setIfInBounds_toArray, List.set_cons_zero, List.set_cons_succ]
        refine takeD (i := 27) (v := undef) 166 rfl rfl (by kernel_rfl) (by kernel_rfl) (by kernel_rfl) (fun _ _ _ h => h) (.inr ⟨by rfl, rfl⟩) (S0) ?_
        try simp only [Act.put, List.setIfInBounds_toArray, List.set_cons_zero, List.set_cons_succ]
        refine takeD (i := 28) (v := undef) 167 rfl rfl (by kernel_rfl) (by kernel_rfl) (by kernel_rfl) (fun _ _ _ h => h) (.inr ⟨by rfl, rfl⟩) (S0) ?_
        try simp only [Act.put, List.setIfInBounds_toArray, List.set_cons_zero, List.set_cons_succ]
        refine takeD (i := 29) (v := undef) 168 rfl rfl (by kernel_rfl) (by kernel_rfl) (by kernel_rfl) (fun _ _ _ h => h) (.inr ⟨by rfl, rfl⟩) (S0) ?_
        try simp only [Act.put, List.setIfInBounds_toArray, List.set_cons_zero, List.set_cons_succ]
        refine takeD (i := 30) (v := undef) 169 rfl rfl (by kernel_rfl) (by kernel_rfl) (by kernel_rfl) (fun _ _ _ h => h) (.inr ⟨by rfl, rfl⟩) (S0) ?_
        try simp only [Act.put, List.setIfInBounds_toArray, List.set_cons_zero, List.set_cons_succ]
        refine takeD (i := 31) (v := .bool false) 170 rfl rfl (by kernel_rfl) (by kernel_rfl) (by kernel_rfl) (fun _ _ _ h => h) (.inl ⟨by rfl, fun W hW => exec_pick _ _ _ false _ rfl rfl rfl⟩) (S0) ?_
        try simp only [Act.put, List.setIfInBounds_toArray, List.set_cons_zero, List.set_cons_succ]
        refine wpAnyH_done (by kernel_rfl) ?_ _
        clear S0 hwd
        go_wp2
        go_roundw
        case rel => exact GO.out
        case measure => simp [intOf]; omega
      · have nb : (!(x.st == 1)) = true := by simp [hs1]
        cases oq with
        | none =>
          have eo : old Lx (q + 1) = some q := old_new hx hs1 hoq.symm
          have S0 : wd.cell? ⟨b, 10, none⟩ = some (.slice (some ⟨g, 0, none⟩) 8 c) ∧ wd.cell? ⟨g, q * 15 + 4, none⟩ = some (.int .i64 x.st) := ⟨xl0, x4⟩
          have GO := hide (NX.out _ eo)
          clear NX eo xl0 cs0 x4 x11 hx hoq hs1
          refine region_out (fun W' => W'.cell? ⟨b, 10, none⟩ = some (.slice (some ⟨g, 0, none⟩) 8 c) ∧ W'.cell? ⟨g, q * 15 + 4, none⟩ = some (.int .i64 x.st)) (by kernel_rfl) ?_
          rw [← hwd]
          refine takeD (i := 0) (v := .pointer (some ⟨b, 0, none⟩)) 139 rfl rfl (by kernel_rfl) (by kernel_rfl) (by kernel_rfl) (fun _ _ _ h => h) (.inl ⟨by rfl, fun W hW => exec_move _ _ rfl rfl⟩) (S0) ?_
          try simp only [Act.put, List.setIfInBounds_toArray, List.set_cons_zero, List.set_cons_succ]
          refine takeD (i := 1) (v := .pointer (some ⟨b, 0, none⟩)) 140 rfl rfl (by kernel_rfl) (by kernel_rfl) (by kernel_rfl) (fun _ _ _ h => h) (.inl ⟨by rfl, fun W hW => exec_nil _ _ rfl rfl⟩) (S0) ?_
          try simp only [Act.put, List.setIfInBounds_toArray, List.set_cons_zero, List.set_cons_succ]
          refine takeD (i := 2) (v := .pointer (some ⟨b, 10, none⟩)) 141 rfl rfl (by kernel_rfl) (by kernel_rfl) (by kernel_rfl) (fun _ _ _ h => h) (.inl ⟨by rfl, fun W hW => exec_fieldO 43 _ 2 b 0 10 rfl rfl (fun w => by kernel_rfl)⟩) (S0) ?_
          try simp only [Act.put, List.setIfInBounds_toArray, List.set_cons_zero, List.set_cons_succ]
          refine takeD (i := 3) (v := .slice (some ⟨g, 0, none⟩) 8 c) 142 rfl rfl (by kernel_rfl) (by kernel_rfl) (by kernel_rfl) (fun _ _ _ h => h) (.inl ⟨by rfl, fun W hW => exec_load1 41 oneL _ rfl b 10 rfl (.slice (some ⟨g, 0, none⟩) 8 c) (hW.1)⟩) (S0) ?_
          try simp only [Act.put, List.setIfInBounds_toArray, List.set_cons_zero, List.set_cons_succ]
          refine takeD (i := 4) (v := .int .i64 (q : Int)) 143 rfl rfl (by kernel_rfl) (by kernel_rfl) (by kernel_rfl) (fun _ _ _ h => h) (.inl ⟨by rfl, fun W hW => exec_move _ _ rfl rfl⟩) (S0) ?_
          try simp only [Act.put, List.setIfInBounds_toArray, List.set_cons_zero, List.set_cons_succ]
          refine takeD (i := 5) (v := .pointer (some ⟨g, q * 15, none⟩)) 144 rfl rfl (by kernel_rfl) (by kernel_rfl) (by kernel_rfl) (fun _ _ _ h => h) (.inl ⟨by rfl, fun W hW => exec_ixL _ _ g 8 c q rfl rfl rfl hlt⟩) (S0) ?_
          try simp only [Act.put, List.setIfInBounds_toArray, List.set_cons_zero, List.set_cons_succ]
          refine takeD (i := 6) (v := .pointer (some ⟨g, q * 15 + 4, none⟩)) 145 rfl rfl (by kernel_rfl) (by kernel_rfl) (by kernel_rfl) (fun _ _ _ h => h) (.inl ⟨by rfl, fun W hW => exec_fieldO 66 _ 1 g (q * 15) (q * 15 + 4) rfl rfl (fun w => by kernel_rfl)⟩) (S0) ?_
          try simp only [Act.put, List.setIfInBounds_toArray, List.set_cons_zero, List.set_cons_succ]
          refine takeD (i := 7) (v := .int .i64 x.st) 146 rfl rfl (by kernel_rfl) (by kernel_rfl) (by kernel_rfl) (fun _ _ _ h => h) (.inl ⟨by rfl, fun W hW => exec_load1 3 one1 _ rfl g (q * 15 + 4) rfl (.int .i64 x.st) (hW.2)⟩) (S0) ?_
          try simp only [Act.put, List.setIfInBounds_toArray, List.set_cons_zero, List.set_cons_succ]
          refine takeD (i := 8) (v := .bool true) 147 rfl rfl (by kernel_rfl) (by kernel_rfl) (by kernel_rfl) (fun _ _ _ h => h) (.inl ⟨by rfl, fun W hW => exec_nei _ _ _ x.st 1 _ rfl rfl rfl nb⟩) (S0) ?_
          try simp only [Act.put, List.setIfInBounds_toArray, List.set_cons_zero, List.set_cons_succ]
          refine takeD (i := 9) (v := .bool true) 148 rfl rfl (by kernel_rfl) (by kernel_rfl) (by kernel_rfl) (fun _ _ _ h => h) (.inl ⟨by rfl, fun W hW => exec_move _ _ rfl rfl⟩) (S0) ?_
          try simp only [Act.put, List.setIfInBounds_toArray, List.set_cons_zero, List.set_cons_succ]
          refine takeD (i := 10) (v := .int .i64 (-1)) 149 rfl rfl (by kernel_rfl) (by kernel_rfl) (by kernel_rfl) (fun _ _ _ h => h) (.inl ⟨by rfl, fun W hW => exec_move _ _ rfl rfl⟩) (S0) ?_
          try simp only [Act.put, List.setIfInBounds_toArray, List.set_cons_zero, List.set_cons_succ]
          refine takeD (i := 11) (v := .bool true) 150 rfl rfl (by kernel_rfl) (by kernel_rfl) (by kernel_rfl) (fun _ _ _ h => h) (.inl ⟨by rfl, fun W hW => exec_lti _ _ _ (-1) 0 _ rfl rfl rfl rfl⟩) (S0) ?_
          try simp only [Act.put, List.setIfInBounds_toArray, List.set_cons_zero, List.set_cons_succ]
          refine takeD (i := 12) (v := .bool true) 151 rfl rfl (by kernel_rfl) (by kernel_rfl) (by kernel_rfl) (fun _ _ _ h => h) (.inl ⟨by rfl, fun W hW => exec_move _ _ rfl rfl⟩) (S0) ?_
          try simp only [Act.put, List.setIfInBounds_toArray, List.set_cons_zero, List.set_cons_succ]
          refine takeD (i := 13) (v := undef) 152 rfl rfl (by kernel_rfl) (by kernel_rfl) (by kernel_rfl) (fun _ _ _ h => h) (.inr ⟨by rfl, rfl⟩) (S0) ?_
          try simp only [Act.put, List.setIfInBounds_toArray, List.set_cons_zero, List.set_cons_succ]
          refine takeD (i := 14) (v := undef) 153 rfl rfl (by kernel_rfl) (by kernel_rfl) (by kernel_rfl) (fun _ _ _ h => h) (.inr ⟨by rfl, rfl⟩) (S0) ?_
          try simp only [Act.put, List.setIfInBounds_toArray, List.set_cons_zero, List.set_cons_succ]
          refine takeD (i := 15) (v := undef) 154 rfl rfl (by kernel_rfl) (by kernel_rfl) (by kernel_rfl) (fun _ _ _ h => h) (.inr ⟨by rfl, rfl⟩) (S0) ?_
          try simp only [Act.put, List.setIfInBounds_toArray, List.set_cons_zero, List.set_cons_succ]
          refine takeD (i := 16) (v := undef) 155 rfl rfl (by kernel_rfl) (by kernel_rfl) (by kernel_rfl) (fun _ _ _ h => h) (.inr ⟨by rfl, rfl⟩) (S0) ?_
          try simp only [Act.put, List.setIfInBounds_toArray, List.set_cons_zero, List.set_cons_succ]
          refine takeD (i := 17) (v := undef) 156 rfl rfl (by kernel_rfl) (by kernel_rfl) (by kernel_rfl) (fun _ _ _ h => h) (.inr ⟨by rfl, rfl⟩) (S0) ?_
          try simp only [Act.put, List.setIfInBounds_toArray, List.set_cons_zero, List.set_cons_succ]
          refine takeD (i := 18) (v := undef) 157 rfl rfl (by kernel_rfl) (by kernel_rfl) (by kernel_rfl) (fun _ _ _ h => h) (.inr ⟨by rfl, rfl⟩) (S0) ?_
          try simp only [Act.put, List.setIfInBounds_toArray, List.set_cons_zero, List.set_cons_succ]
          refine takeD (i := 19) (v := undef) 158 rfl rfl (by kernel_rfl) (by kernel_rfl) (by kernel_rfl) (fun _ _ _ h => h) (.inr ⟨by rfl, rfl⟩) (S0) ?_
          try simp only [Act.put, List.setIfInBounds_toArray, List.set_cons_zero, List.set_cons_succ]
          refine takeD (i := 20) (v := undef) 159 rfl rfl (by kernel_rfl) (by kernel_rfl) (by kernel_rfl) (fun _ _ _ h => h) (.inr ⟨by rfl, rfl⟩) (S0) ?_
          try simp only [Act.put, List.setIfInBounds_toArray, List.set_cons_zero, List.set_cons_succ]
          refine takeD (i := 21) (v := undef) 160 rfl rfl (by kernel_rfl) (by kernel_rfl) (by kernel_rfl) (fun _ _ _ h => h) (.inr ⟨by rfl, rfl⟩) (S0) ?_
          try simp only [Act.put, List.setIfInBounds_toArray, List.set_cons_zero, List.set_cons_succ]
          refine takeD (i := 22) (v := undef) 161 rfl rfl (by kernel_rfl) (by kernel_rfl) (by kernel_rfl) (fun _ _ _ h => h) (.inr ⟨by rfl, rfl⟩) (S0) ?_
          try simp only [Act.put, List.setIfInBounds_toArray, List.set_cons_zero, List.set_cons_succ]
          refine takeD (i := 23) (v := undef) 162 rfl rfl (by kernel_rfl) (by kernel_rfl) (by kernel_rfl) (fun _ _ _ h => h) (.inr ⟨by rfl, rfl⟩) (S0) ?_
          try simp only [Act.put, List.setIfInBounds_toArray, List.set_cons_zero, List.set_cons_succ]
          refine takeD (i := 24) (v := undef) 163 rfl rfl (by kernel_rfl) (by kernel_rfl) (by kernel_rfl) (fun _ _ _ h => h) (.inr ⟨by rfl, rfl⟩) (S0) ?_
          try simp only [Act.put, List.setIfInBounds_toArray, List.set_cons_zero, List.set_cons_succ]
          refine takeD (i := 25) (v := undef) 164 rfl rfl (by kernel_rfl) (by kernel_rfl) (by kernel_rfl) (fun _ _ _ h => h) (.inr ⟨by rfl, rfl⟩) (S0) ?_
          try simp only [Act.put, List.setIfInBounds_toArray, List.set_cons_zero, List.set_cons_succ]
          refine takeD (i := 26) (v := undef) 165 rfl rfl (by kernel_rfl) (by kernel_rfl) (by kernel_rfl) (fun _ _ _ h => h) (.inr ⟨by rfl, rfl⟩) (S0) ?_
          try simp only [Act.put, List.setIfInBounds_toArray, List.set_cons_zero, List.set_cons_succ]
          refine takeD (i := 27) (v := undef) 166 rfl rfl (by kernel_rfl) (by kernel_rfl) (by kernel_rfl) (fun _ _ _ h => h) (.inr ⟨by rfl, rfl⟩) (S0) ?_
          try simp only [Act.put, List.setIfInBounds_toArray, List.set_cons_zero, List.set_cons_succ]
          refine takeD (i := 28) (v := undef) 167 rfl rfl (by kernel_rfl) (by kernel_rfl) (by kernel_rfl) (fun _ _ _ h => h) (.inr ⟨by rfl, rfl⟩) (S0) ?_
          try simp only [Act.put, List.setIfInBounds_toArray, List.set_cons_zero, List.set_cons_succ]
          refine takeD (i := 29) (v := undef) 168 rfl rfl (by kernel_rfl) (by kernel_rfl) (by kernel_rfl) (fun _ _ _ h => h) (.inr ⟨by rfl, rfl⟩) (S0) ?_
          try simp only [Act.put, List.setIfInBounds_toArray, List.set_cons_zero, List.set_cons_succ]
          refine takeD (i := 30) (v := .bool true) 169 rfl rfl (by kernel_rfl) (by kernel_rfl) (by kernel_rfl) (fun _ _ _ h => h) (.inl ⟨by rfl, fun W hW => exec_pick _ _ _ true _ rfl rfl rfl⟩) (S0) ?_
          try simp only [Act.put, List.setIfInBounds_toArray, List.set_cons_zero, List.set_cons_succ]
          refine takeD (i := 31) (v := .bool true) 170 rfl rfl (by kernel_rfl) (by kernel_rfl) (by kernel_rfl) (fun _ _ _ h => h) (.inl ⟨by rfl, fun W hW => exec_pick _ _ _ true _ rfl rfl rfl⟩) (S0) ?_
          try simp only [Act.put, List.setIfInBounds_toArray, List.set_cons_zero, List.set_cons_succ]
          refine wpAnyH_done (by kernel_rfl) ?_ _
          clear S0 hwd nb
          go_wp2
          go_roundw
          case rel => exact GO.out
          case measure => simp [intOf]; omega
        | some j =>
          have hj := (old_lt _ _ hoq.symm).1
          obtain ⟨y, hy⟩ : ∃ y, Lx[j]? = some y := ⟨_, List.getElem?_eq_getElem (by rw [LEN8.out]; omega)⟩
          have jl : j < 8 := by omega
          have nj : decide ((j : Int) < 0) = false := decide_eq_false (by omega)
          obtain ⟨d, hd⟩ : ∃ d, decide (x.since < y.since) = d := ⟨_, rfl⟩
          have eo : old Lx (q + 1) = if d then some q else some j := by
            rw [old_two hx hs1 hoq.symm hy, ← hd]
            by_cases e : x.since < y.since
            · rw [if_neg (by omega), decide_eq_true e]; rfl
            · rw [if_pos (by omega), decide_eq_false e]; rfl
          have S0 : wd.cell? ⟨b, 10, none⟩ = some (.slice (some ⟨g, 0, none⟩) 8 c) ∧ wd.cell? ⟨g, q * 15 + 4, none⟩ = some (.int .i64 x.st) ∧ wd.cell? ⟨g, q * 15 + 11, none⟩ = some (.int .i64 x.since) ∧ wd.cell? ⟨g, j * 15 + 11, none⟩ = some (.int .i64 y.since) := ⟨xl0, x4, x11, (cs0 j y hy).2⟩
          have GO := hide (NX.out _ eo)
          clear NX eo xl0 cs0 x4 x11 hx hoq hs1 hy hj
          refine region_out (fun W' => W'.cell? ⟨b, 10, none⟩ = some (.slice (some ⟨g, 0, none⟩) 8 c) ∧ W'.cell? ⟨g, q * 15 + 4, none⟩ = some (.int .i64 x.st) ∧ W'.cell? ⟨g, q * 15 + 11, none⟩ = some (.int .i64 x.since) ∧ W'.cell? ⟨g, j * 15 + 11, none⟩ = some (.int .i64 y.since)) (by kernel_rfl) ?_
          rw [← hwd]
          refine takeD (i := 0) (v := .pointer (some ⟨b, 0, none⟩)) 139 rfl rfl (by kernel_rfl) (by kernel_rfl) (by kernel_rfl) (fun _ _ _ h => h) (.inl ⟨by rfl, fun W hW => exec_move _ _ rfl rfl⟩) (S0) ?_
          try simp only [Act.put, List.setIfInBounds_toArray, List.set_cons_zero, List.set_cons_succ]
          refine takeD (i := 1) (v := .pointer (some ⟨b, 0, none⟩)) 140 rfl rfl (by kernel_rfl) (by kernel_rfl) (by kernel_rfl) (fun _ _ _ h => h) (.inl ⟨by rfl, fun W hW => exec_nil _ _ rfl rfl⟩) (S0) ?_
          try simp only [Act.put, List.setIfInBounds_toArray, List.set_cons_zero, List.set_cons_succ]
          refine takeD (i := 2) (v := .pointer (some ⟨b, 10, none⟩)) 141 rfl rfl (by kernel_rfl) (by kernel_rfl) (by kernel_rfl) (fun _ _ _ h => h) (.inl ⟨by rfl, fun W hW => exec_fieldO 43 _ 2 b 0 10 rfl rfl (fun w => by kernel_rfl)⟩) (S0) ?_
          try simp only [Act.put, List.setIfInBounds_toArray, List.set_cons_zero, List.set_cons_succ]
          refine takeD (i := 3) (v := .slice (some ⟨g, 0, none⟩) 8 c) 142 rfl rfl (by kernel_rfl) (by kernel_rfl) (by kernel_rfl) (fun _ _ _ h => h) (.inl ⟨by rfl, fun W hW => exec_load1 41 oneL _ rfl b 10 rfl (.slice (some ⟨g, 0, none⟩) 8 c) (hW.1)⟩) (S0) ?_
          try simp only [Act.put, List.setIfInBounds_toArray, List.set_cons_zero, List.set_cons_succ]
          refine takeD (i := 4) (v := .int .i64 (q : Int)) 143 rfl rfl (by kernel_rfl) (by kernel_rfl) (by kernel_rfl) (fun _ _ _ h => h) (.inl ⟨by rfl, fun W hW => exec_move _ _ rfl rfl⟩) (S0) ?_
          try simp only [Act.put, List.setIfInBounds_toArray, List.set_cons_zero, List.set_cons_succ]
          refine takeD (i := 5) (v := .pointer (some ⟨g, q * 15, none⟩)) 144 rfl rfl (by kernel_rfl) (by kernel_rfl) (by kernel_rfl) (fun _ _ _ h => h) (.inl ⟨by rfl, fun W hW => exec_ixL _ _ g 8 c q rfl rfl rfl hlt⟩) (S0) ?_
          try simp only [Act.put, List.setIfInBounds_toArray, List.set_cons_zero, List.set_cons_succ]
          refine takeD (i := 6) (v := .pointer (some ⟨g, q * 15 + 4, none⟩)) 145 rfl rfl (by kernel_rfl) (by kernel_rfl) (by kernel_rfl) (fun _ _ _ h => h) (.inl ⟨by rfl, fun W hW => exec_fieldO 66 _ 1 g (q * 15) (q * 15 + 4) rfl rfl (fun w => by kernel_rfl)⟩) (S0) ?_
          try simp only [Act.put, List.setIfInBounds_toArray, List.set_cons_zero, List.set_cons_succ]
          refine takeD (i := 7) (v := .int .i64 x.st) 146 rfl rfl (by kernel_rfl) (by kernel_rfl) (by kernel_rfl) (fun _ _ _ h => h) (.inl ⟨by rfl, fun W hW => exec_load1 3 one1 _ rfl g (q * 15 + 4) rfl (.int .i64 x.st) (hW.2.1)⟩) (S0) ?_
          try simp only [Act.put, List.setIfInBounds_toArray, List.set_cons_zero, List.set_cons_succ]
          refine takeD (i := 8) (v := .bool true) 147 rfl rfl (by kernel_rfl) (by kernel_rfl) (by kernel_rfl) (fun _ _ _ h => h) (.inl ⟨by rfl, fun W hW => exec_nei _ _ _ x.st 1 _ rfl rfl rfl nb⟩) (S0) ?_
          try simp only [Act.put, List.setIfInBounds_toArray, List.set_cons_zero, List.set_cons_succ]
          refine takeD (i := 9) (v := .bool true) 148 rfl rfl (by kernel_rfl) (by kernel_rfl) (by kernel_rfl) (fun _ _ _ h => h) (.inl ⟨by rfl, fun W hW => exec_move _ _ rfl rfl⟩) (S0) ?_
          try simp only [Act.put, List.setIfInBounds_toArray, List.set_cons_zero, List.set_cons_succ]
          refine takeD (i := 10) (v := .int .i64 (j : Int)) 149 rfl rfl (by kernel_rfl) (by kernel_rfl) (by kernel_rfl) (fun _ _ _ h => h) (.inl ⟨by rfl, fun W hW => exec_move _ _ rfl rfl⟩) (S0) ?_
          try simp only [Act.put, List.setIfInBounds_toArray, List.set_cons_zero, List.set_cons_succ]
          refine takeD (i := 11) (v := .bool false) 150 rfl rfl (by kernel_rfl) (by kernel_rfl) (by kernel_rfl) (fun _ _ _ h => h) (.inl ⟨by rfl, fun W hW => exec_lti _ _ _ (j : Int) 0 _ rfl rfl rfl nj⟩) (S0) ?_
          try simp only [Act.put, List.setIfInBounds_toArray, List.set_cons_zero, List.set_cons_succ]
          refine takeD (i := 12) (v := .bool false) 151 rfl rfl (by kernel_rfl) (by kernel_rfl) (by kernel_rfl) (fun _ _ _ h => h) (.inl ⟨by rfl, fun W hW => exec_move _ _ rfl rfl⟩) (S0) ?_
          try simp only [Act.put, List.setIfInBounds_toArray, List.set_cons_zero, List.set_cons_succ]
          refine takeD (i := 13) (v := .pointer (some ⟨b, 0, none⟩)) 152 rfl rfl (by kernel_rfl) (by kernel_rfl) (by kernel_rfl) (fun _ _ _ h => h) (.inl ⟨by rfl, fun W hW => exec_move _ _ rfl rfl⟩) (S0) ?_
          try simp only [Act.put, List.setIfInBounds_toArray, List.set_cons_zero, List.set_cons_succ]
          refine takeD (i := 14) (v := .pointer (some ⟨b, 0, none⟩)) 153 rfl rfl (by kernel_rfl) (by kernel_rfl) (by kernel_rfl) (fun _ _ _ h => h) (.inl ⟨by rfl, fun W hW => exec_nil _ _ rfl rfl⟩) (S0) ?_
          try simp only [Act.put, List.setIfInBounds_toArray, List.set_cons_zero, List.set_cons_succ]
          refine takeD (i := 15) (v := .pointer (some ⟨b, 10, none⟩)) 154 rfl rfl (by kernel_rfl) (by kernel_rfl) (by kernel_rfl) (fun _ _ _ h => h) (.inl ⟨by rfl, fun W hW => exec_fieldO 43 _ 2 b 0 10 rfl rfl (fun w => by kernel_rfl)⟩) (S0) ?_
          try simp only [Act.put, List.setIfInBounds_toArray, List.set_cons_zero, List.set_cons_succ]
          refine takeD (i := 16) (v := .slice (some ⟨g, 0, none⟩) 8 c) 155 rfl rfl (by kernel_rfl) (by kernel_rfl) (by kernel_rfl) (fun _ _ _ h => h) (.inl ⟨by rfl, fun W hW => exec_load1 41 oneL _ rfl b 10 rfl (.slice (some ⟨g, 0, none⟩) 8 c) (hW.1)⟩) (S0) ?_
          try simp only [Act.put, List.setIfInBounds_toArray, List.set_cons_zero, List.set_cons_succ]
          refine takeD (i := 17) (v := .int .i64 (q : Int)) 156 rfl rfl (by kernel_rfl) (by kernel_rfl) (by kernel_rfl) (fun _ _ _ h => h) (.inl ⟨by rfl, fun W hW => exec_move _ _ rfl rfl⟩) (S0) ?_
          try simp only [Act.put, List.setIfInBounds_toArray, List.set_cons_zero, List.set_cons_succ]
          refine takeD (i := 18) (v := .pointer (some ⟨g, q * 15, none⟩)) 157 rfl rfl (by kernel_rfl) (by kernel_rfl) (by kernel_rfl) (fun _ _ _ h => h) (.inl ⟨by rfl, fun W hW => exec_ixL _ _ g 8 c q rfl rfl rfl hlt⟩) (S0) ?_
          try simp only [Act.put, List.setIfInBounds_toArray, List.set_cons_zero, List.set_cons_succ]
          refine takeD (i := 19) (v := .pointer (some ⟨g, q * 15 + 11, none⟩)) 158 rfl rfl (by kernel_rfl) (by kernel_rfl) (by kernel_rfl) (fun _ _ _ h => h) (.inl ⟨by rfl, fun W hW => exec_fieldO 66 _ 3 g (q * 15) (q * 15 + 11) rfl rfl (fun w => by kernel_rfl)⟩) (S0) ?_
          try simp only [Act.put, List.setIfInBounds_toArray, List.set_cons_zero, List.set_cons_succ]
          refine takeD (i := 20) (v := .int .i64 x.since) 159 rfl rfl (by kernel_rfl) (by kernel_rfl) (by kernel_rfl) (fun _ _ _ h => h) (.inl ⟨by rfl, fun W hW => exec_load1 3 one1 _ rfl g (q * 15 + 11) rfl (.int .i64 x.since) (hW.2.2.1)⟩) (S0) ?_
          try simp only [Act.put, List.setIfInBounds_toArray, List.set_cons_zero, List.set_cons_succ]
          refine takeD (i := 21) (v := .pointer (some ⟨b, 0, none⟩)) 160 rfl rfl (by kernel_rfl) (by kernel_rfl) (by kernel_rfl) (fun _ _ _ h => h) (.inl ⟨by rfl, fun W hW => exec_move _ _ rfl rfl⟩) (S0) ?_
          try simp only [Act.put, List.setIfInBounds_toArray, List.set_cons_zero, List.set_cons_succ]
          refine takeD (i := 22) (v := .pointer (some ⟨b, 0, none⟩)) 161 rfl rfl (by kernel_rfl) (by kernel_rfl) (by kernel_rfl) (fun _ _ _ h => h) (.inl ⟨by rfl, fun W hW => exec_nil _ _ rfl rfl⟩) (S0) ?_
          try simp only [Act.put, List.setIfInBounds_toArray, List.set_cons_zero, List.set_cons_succ]
          refine takeD (i := 23) (v := .pointer (some ⟨b, 10, none⟩)) 162 rfl rfl (by kernel_rfl) (by kernel_rfl) (by kernel_rfl) (fun _ _ _ h => h) (.inl ⟨by rfl, fun W hW => exec_fieldO 43 _ 2 b 0 10 rfl rfl (fun w => by kernel_rfl)⟩) (S0) ?_
          try simp only [Act.put, List.setIfInBounds_toArray, List.set_cons_zero, List.set_cons_succ]
          refine takeD (i := 24) (v := .slice (some ⟨g, 0, none⟩) 8 c) 163 rfl rfl (by kernel_rfl) (by kernel_rfl) (by kernel_rfl) (fun _ _ _ h => h) (.inl ⟨by rfl, fun W hW => exec_load1 41 oneL _ rfl b 10 rfl (.slice (some ⟨g, 0, none⟩) 8 c) (hW.1)⟩) (S0) ?_
          try simp only [Act.put, List.setIfInBounds_toArray, List.set_cons_zero, List.set_cons_succ]
          refine takeD (i := 25) (v := .int .i64 (j : Int)) 164 rfl rfl (by kernel_rfl) (by kernel_rfl) (by kernel_rfl) (fun _ _ _ h => h) (.inl ⟨by rfl, fun W hW => exec_move _ _ rfl rfl⟩) (S0) ?_
          try simp only [Act.put, List.setIfInBounds_toArray, List.set_cons_zero, List.set_cons_succ]
          refine takeD (i := 26) (v := .pointer (some ⟨g, j * 15, none⟩)) 165 rfl rfl (by kernel_rfl) (by kernel_rfl) (by kernel_rfl) (fun _ _ _ h => h) (.inl ⟨by rfl, fun W hW => exec_ixL _ _ g 8 c j rfl rfl rfl jl⟩) (S0) ?_
          try simp only [Act.put, List.setIfInBounds_toArray, List.set_cons_zero, List.set_cons_succ]
          refine takeD (i := 27) (v := .pointer (some ⟨g, j * 15 + 11, none⟩)) 166 rfl rfl (by kernel_rfl) (by kernel_rfl) (by kernel_rfl) (fun _ _ _ h => h) (.inl ⟨by rfl, fun W hW => exec_fieldO 66 _ 3 g (j * 15) (j * 15 + 11) rfl rfl (fun w => by kernel_rfl)⟩) (S0) ?_
          try simp only [Act.put, List.setIfInBounds_toArray, List.set_cons_zero, List.set_cons_succ]
          refine takeD (i := 28) (v := .int .i64 y.since) 167 rfl rfl (by kernel_rfl) (by kernel_rfl) (by kernel_rfl) (fun _ _ _ h => h) (.inl ⟨by rfl, fun W hW => exec_load1 3 one1 _ rfl g (j * 15 + 11) rfl (.int .i64 y.since) (hW.2.2.2)⟩) (S0) ?_
          try simp only [Act.put, List.setIfInBounds_toArray, List.set_cons_zero, List.set_cons_succ]
          refine takeD (i := 29) (v := .bool d) 168 rfl rfl (by kernel_rfl) (by kernel_rfl) (by kernel_rfl) (fun _ _ _ h => h) (.inl ⟨by rfl, fun W hW => exec_lti _ _ _ x.since y.since _ rfl rfl rfl hd⟩) (S0) ?_
          try simp only [Act.put, List.setIfInBounds_toArray, List.set_cons_zero, List.set_cons_succ]
          refine takeD (i := 30) (v := .bool d) 169 rfl rfl (by kernel_rfl) (by kernel_rfl) (by kernel_rfl) (fun _ _ _ h => h) (.inl ⟨by rfl, fun W hW => exec_pick _ _ _ false _ rfl rfl rfl⟩) (S0) ?_
          try simp only [Act.put, List.setIfInBounds_toArray, List.set_cons_zero, List.set_cons_succ]
          refine takeD (i := 31) (v := .bool d) 170 rfl rfl (by kernel_rfl) (by kernel_rfl) (by kernel_rfl) (fun _ _ _ h => h) (.inl ⟨by rfl, fun W hW => exec_pick _ _ _ true _ rfl rfl rfl⟩) (S0) ?_
          try simp only [Act.put, List.setIfInBounds_toArray, List.set_cons_zero, List.set_cons_succ]
          refine wpAnyH_done (by kernel_rfl) ?_ _
          clear S0 hwd nb nj hd
          cases d with
          | true =>
            go_wp2
            go_roundw
            case rel => exact GO.out
            case measure => simp [intOf]; omega
          | false =>
            go_wp2
            go_roundw
            case rel => exact GO.out
            case measure => simp [intOf]; omega
    · have eq : q = 8 := by omega
      subst eq
      have HOQ := hide hoq
      have HR := hide (H3.out.later HB.out)
      have FR := hide (F3.out.below HB.out.size)
      have sp3 := SZ3.out
      have szr := HB.out.size
      have CIr := hide (CI3.out.later (by omega) HB.out)
      have CMr := hide (CM3.out.later (by omega) HB.out)
      have FMr : Hid (∀ j, wr.frozen? ⟨s + 1, j, none⟩ = false) := fun j => (HB.out.frozen (p := ⟨s + 1, j, none⟩) (by show s + 1 < _; omega)).trans (FM3.out j)
      have MR : Hid (Mv k ρ ρ W wr) := M3.out.trans (Mv.below HB.out)
      have SZr : Hid (s + 2 ≤ wr.heap.size) := by unfold Hid; omega
      clear hoq sp3 szr HB CI3 CM3 FM3 H3 F3 M3 SZ3 CS hq hlt
      cases oq with
      | none =>
        have EF : Hid (fd ip buf now (Lt.map Prod.snd) = ⟨zM, [], false, 81, Lt.map Prod.snd⟩) := by
          unfold Hid fd
          rw [HF.out]
          simp only [room]
          rw [← HLX.out, if_neg (by rw [LEN8.out]; omega), LEN8.out, ← HOQ.out]
          rfl
        have FIN : Hid (FdEnd ρ k W b m i ip (fd ip buf now (Lt.map Prod.snd)) (.returned (.tuple #[zM.val, .slice none 0 0, .slice none 0 0, .int .i64 81])) (wr.setCells (s + 1) 0 zM.vals)) := by
          unfold Hid
          rw [EF.out]
          exact FdEnd.put (r := ⟨zM, [], false, 81, Lt.map Prod.snd⟩) ⟨_, _, rfl, HR.out⟩ FR.out MR.out (s + 1) (by have := HS.out; omega) RT.out (RowN.nil _ _) (RowF.nil _ _ _ _)
        have LV := hide (run_loadVarA 23 6 aggM sizM (s + 1) 0 zM.vals rfl (CMr.out.stored rfl))
        have z0 := CMr.out 0 _ rfl
        have z1 := CMr.out 1 _ rfl
        have z2 := CMr.out 2 _ rfl
        have z3 := CMr.out 3 _ rfl
        have z4 := CMr.out 4 _ rfl
        have z5 := CMr.out 5 _ rfl
        simp only [Nat.zero_add] at z0 z1 z2 z3 z4 z5
        have zf := FMr.out
        rw [show oI none = -1 from rfl]
        go_wp2
        refine bodyPost_ret (v := .tuple #[zM.val, .slice none 0 0, .slice none 0 0, .int .i64 81]) ?_ rfl FIN.out
        exact results_4 rfl _ _ (s + 1) _ _ _ _ rfl rfl rfl rfl LV.out
      | some j =>
        have hj := (old_lt _ _ HOQ.out.symm).1
        have EF0 : Hid (fd ip buf now (Lt.map Prod.snd) = ⟨zM, [], true, 80, (Lt.map Prod.snd).eraseIdx j ++ [⟨ip, 1, zM, now, now, 1, [buf]⟩]⟩) := by
          unfold Hid fd
          rw [HF.out]
          simp only [room]
          rw [← HLX.out, if_neg (by rw [LEN8.out]; omega), LEN8.out, ← HOQ.out]
          rfl
        have RO := hide (rout_any HR.out FR.out (by have := HL8.out; omega) (j := j) (by have := HL8.out; omega))
        have zj : ¬ (j : Int) < 0 := by omega
        rw [show oI (some j) = (j : Int) from rfl]
        have HJ := hide hj
        clear hj
        go_wp2_with fail
        refine RO.out.mono ?_
        rintro _ wo ⟨rfl, ρ1, ⟨lo, Lo, eLo, ho⟩, Fo, Mo⟩
        have spr := SZr.out
        have szo := Mo.but.size
        have k0 := h.pos
        have hsW := HS.out
        have rs0 : ρ s = (0, 0, 0) := HF0.out s (by omega)
        have rt0 := RT.out
        have ns : ¬ (ρ s).1 = k := by rw [rs0]; show ¬ 0 = k; omega
        have nt : ¬ (ρ (s + 1)).1 = k := by rw [rt0]; show ¬ 0 = k; omega
        have CI3 := hide (CIr.out.but (by omega) Mo.but ns)
        have CM3 := hide (CMr.out.but (by omega) Mo.but nt)
        have FM3 : Hid (∀ j, wo.frozen? ⟨s + 1, j, none⟩ = false) := fun j => (Mo.but.frozen (p := ⟨s + 1, j, none⟩) (by show s + 1 < _; omega) nt).trans (FMr.out j)
        have M3 : Hid (Mv k ρ ρ1 W wo) := MR.out.trans Mo
        have RS : Hid (ρ1 s = (0, 0, 0)) := (Mo.keep s (by omega) ns).trans rs0
        have RT1 : Hid (ρ1 (s + 1) = (0, 0, 0)) := (Mo.keep (s + 1) (by omega) nt).trans rt0
        have H3 := hide ho
        have F3 := hide Fo
        have SZ3 : Hid (s + 2 ≤ wo.heap.size) := by unfold Hid; omega
        have EF : Hid (fd ip buf now (Lt.map Prod.snd) = ⟨zM, [], true, 80, Lo.map Prod.snd ++ [⟨ip, 1, zM, now, now, 1, [buf]⟩]⟩) := by
          unfold Hid
          rw [EF0.out, eLo]
        have LO8 : Hid (Lo.length = 7) := by
          have e := congrArg List.length eLo
          rw [List.length_map, List.length_eraseIdx_of_lt (by rw [← HLX.out, LEN8.out]; exact HJ.out), ← HLX.out, LEN8.out] at e
          exact e
        obtain ⟨n, hn⟩ : ∃ n, n = Lo.length := ⟨_, rfl⟩
        have HN := hide hn
        clear hn spr szo hsW rs0 rt0 ns nt ho Fo Mo eLo RO HR FR CIr CMr FMr MR SZr zj k0
        go_wp2_with fail
        obtain ⟨w4, hw4⟩ : ∃ w4, w4 = wo.drew := ⟨_, rfl⟩
        have b4 : Below wo.heap.size wo w4 := by rw [hw4]; exact (Below.refl _ wo).drew
        have sz4 : w4.heap.size = wo.heap.size := by rw [hw4]; rfl
        obtain ⟨p, hp⟩ : ∃ p, p = w4.heap.size := ⟨_, rfl⟩
        obtain ⟨w5, hw5⟩ : ∃ w5, w5 = w4.alloc (.cells #[.int .i64 buf] 3) := ⟨_, rfl⟩
        have sz5 : w5.heap.size = p + 1 := by rw [hw5]; simp [hp]
        have b5 : Below wo.heap.size wo w5 := by rw [hw5]; exact b4.alloc (by omega) _
        obtain ⟨w6, hw6⟩ : ∃ w6, w6 = w5.alloc (.cells (Nb.cells ⟨ip, 1, zM, now, now, 1, [buf]⟩ (.slice (some ⟨p, 0, none⟩) 1 1)).toArray 66) := ⟨_, rfl⟩
        have sz6 : w6.heap.size = p + 2 := by rw [hw6]; simp [sz5]
        have b6 : Below wo.heap.size wo w6 := by rw [hw6]; exact b5.alloc (by omega) _
        have c6 : CellsAt w6 (p + 1) 0 (Nb.cells ⟨ip, 1, zM, now, now, 1, [buf]⟩ (.slice (some ⟨p, 0, none⟩) 1 1)) := by
          have := CellsAt.new w5 (Nb.cells ⟨ip, 1, zM, now, now, 1, [buf]⟩ (.slice (some ⟨p, 0, none⟩) 1 1)) 66
          rw [sz5] at this
          rw [hw6]; exact this
        have r5 : RowN (fun g => g = p) w5 (.slice (some ⟨p, 0, none⟩) 1 1) [buf] := by
          refine ⟨_, 1, rfl, Nat.le_refl _, by unfold maxLen; omega, (fun e => by cases e), fun ad e => ?_⟩
          cases e
          have hc := CellsAt.new w4 [.int .i64 buf] 3
          rw [← hp] at hc
          refine ⟨p, 0, rfl, by omega, fun _ => rfl, fun j hj => ?_, fun j => ?_, fun j x hx => ?_⟩
          · rw [hw5]; exact hc.is j hj
          · rw [hw5, hp]; exact frozen_new w4 _ _ _
          · cases j with
            | zero => simp at hx; subst hx; rw [hw5]; exact hc 0 _ rfl
            | succ j => simp at hx
        have r6 := r5.but (K := fun _ => False) (W' := w6) (by rw [hw6]; exact (But.refl _ _).alloc _) (fun _ _ => id)
        obtain ⟨a7, c7, w7, hrun, b7, l7, f7, ρ', t, h7, F7, M7, kp⟩ := H3.out.add F3.out (by have := LO8.out; omega) ⟨ip, 1, zM, now, now, 1, [buf]⟩ (.slice (some ⟨p, 0, none⟩) 1 1) b6 (p + 1) p c6 r6 (by simp) (by omega) (by omega)
        rw [← HN.out] at hrun h7 M7
        obtain ⟨w8, hw8⟩ : ∃ w8, w8 = w7.setCell ⟨b, 10, none⟩ (.slice a7 (n + 1) c7) := ⟨_, rfl⟩
        rw [← hw8] at h7 M7
        have sz8 : w8.heap.size = w7.heap.size := by rw [hw8]; simp
        have sp := SZ3.out
        have ks : ρ1 s = (0, 0, 0) := RS.out
        have kt : ρ1 (s + 1) = (0, 0, 0) := RT1.out
        have k0 := h.pos
        have cs3 : ∀ W', Below wo.heap.size wo W' → CellsAt W' s 0 ip.vals := fun W' hb => CI3.out.later (by omega) hb
        have S3 : ∀ W', Below wo.heap.size wo W' → W'.cell? ⟨b, 10, none⟩ = some lo ∧ CellsAt W' s 0 ip.vals := fun W' hb => ⟨(hb.cell (p := ⟨b, 10, none⟩) H3.out.lt).trans H3.out.lst, cs3 W' hb⟩
        have ci7 : CellsAt w7 s 0 ip.vals := (cs3 w6 b6).but (by omega) b7 (fun e => by rw [ks] at e; have e := e.1; have e : 0 = k := e; omega)
        have cm7 : CellsAt w7 (s + 1) 0 zM.vals := (CM3.out.later (by omega) b6).but (by omega) b7 (fun e => by rw [kt] at e; have e := e.1; have e : 0 = k := e; omega)
        have fm7 : ∀ j, w7.frozen? ⟨s + 1, j, none⟩ = false := fun j => (b7.frozen (p := ⟨s + 1, j, none⟩) (by show s + 1 < _; omega) (fun e => by rw [kt] at e; have e := e.1; have e : 0 = k := e; omega)).trans ((b6.frozen (p := ⟨s + 1, j, none⟩) (by show s + 1 < _; omega)).trans (FM3.out j))
        have bW8 : But (Only b) w7 w8 := by rw [hw8]; exact (But.refl (Only b) w7).setCell (p := ⟨b, 10, none⟩) (.inr rfl) _
        have hbW : b < W.heap.size := h.lt
        have hsW := HS.out
        have b7s := b7.size
        have CI8 := hide (ci7.but (by omega) bW8 (fun e => by have e : s = b := e; omega))
        have CM8 := hide (cm7.but (by omega) bW8 (fun e => by have e : s + 1 = b := e; omega))
        have FM8 : Hid (∀ j, w8.frozen? ⟨s + 1, j, none⟩ = false) := fun j => (bW8.frozen (p := ⟨s + 1, j, none⟩) (by show s + 1 < _; omega) (fun e => by have e : s + 1 = b := e; omega)).trans (fm7 j)
        have H8 := hide h7
        have F8 : Hid (Fit ρ' w8) := F7.below (by omega)
        have M8 : Hid (Mv k ρ ρ' W w8) := M3.out.trans M7
        have SZ8 : Hid (s + 2 ≤ w8.heap.size) := by unfold Hid; omega
        have RS8 : Hid (ρ' s = (0, 0, 0) ∧ ρ' (s + 1) = (0, 0, 0)) := ⟨(kp s (by omega) (by omega)).trans ks, (kp (s + 1) (by omega) (by omega)).trans kt⟩
        refine regionJ (fun j => j != 15) (fun W' => W'.cell? ⟨b, 10, none⟩ = some lo ∧ CellsAt W' s 0 ip.vals) (by kernel_rfl) ?_
        rw [← hw4]
        refine takeJ (i := 0) (v := .pointer (some ⟨b, 0, none⟩)) 178 rfl rfl (by kernel_rfl) (by kernel_rfl) (by kernel_rfl) (by kernel_rfl) (fun _ _ _ h => h) (.inl ⟨by rfl, fun W hW => exec_move _ _ rfl rfl⟩) (S3 w4 b4) ?_
        try simp only [Act.put, List.setIfInBounds_toArray, List.set_cons_zero, List.set_cons_succ]
        refine takeJ (i := 1) (v := .pointer (some ⟨b, 0, none⟩)) 179 rfl rfl (by kernel_rfl) (by kernel_rfl) (by kernel_rfl) (by kernel_rfl) (fun _ _ _ h => h) (.inl ⟨by rfl, fun W hW => exec_move _ _ rfl rfl⟩) (S3 w4 b4) ?_
        try simp only [Act.put, List.setIfInBounds_toArray, List.set_cons_zero, List.set_cons_succ]
        refine takeJ (i := 2) (v := .pointer (some ⟨b, 0, none⟩)) 180 rfl rfl (by kernel_rfl) (by kernel_rfl) (by kernel_rfl) (by kernel_rfl) (fun _ _ _ h => h) (.inl ⟨by rfl, fun W hW => exec_nil _ _ rfl rfl⟩) (S3 w4 b4) ?_
        try simp only [Act.put, List.setIfInBounds_toArray, List.set_cons_zero, List.set_cons_succ]
        refine takeJ (i := 3) (v := .pointer (some ⟨b, 10, none⟩)) 181 rfl rfl (by kernel_rfl) (by kernel_rfl) (by kernel_rfl) (by kernel_rfl) (fun _ _ _ h => h) (.inl ⟨by rfl, fun W hW => exec_fieldO 43 _ 2 b 0 10 rfl rfl (fun w => by kernel_rfl)⟩) (S3 w4 b4) ?_
        try simp only [Act.put, List.setIfInBounds_toArray, List.set_cons_zero, List.set_cons_succ]
        refine takeJ (i := 4) (v := lo) 182 rfl rfl (by kernel_rfl) (by kernel_rfl) (by kernel_rfl) (by kernel_rfl) (fun _ _ _ h => h) (.inl ⟨by rfl, fun W hW => exec_load1 41 oneL _ rfl b 10 rfl (lo) (hW.1)⟩) (S3 w4 b4) ?_
        try simp only [Act.put, List.setIfInBounds_toArray, List.set_cons_zero, List.set_cons_succ]
        refine takeJ (i := 5) (v := .agg (ip.vals).toArray) 183 rfl rfl (by kernel_rfl) (by kernel_rfl) (by kernel_rfl) (by kernel_rfl) (fun _ _ _ h => h) (.inl ⟨by rfl, fun W hW => exec_loadA 25 4 aggI sizI _ rfl s 0 rfl (ip.vals) rfl (hW.2)⟩) (S3 w4 b4) ?_
        try simp only [Act.put, List.setIfInBounds_toArray, List.set_cons_zero, List.set_cons_succ]
        refine takeJ (i := 6) (v := .int .i64 now) 184 rfl rfl (by kernel_rfl) (by kernel_rfl) (by kernel_rfl) (by kernel_rfl) (fun _ _ _ h => h) (.inl ⟨by rfl, fun W hW => exec_move _ _ rfl rfl⟩) (S3 w4 b4) ?_
        try simp only [Act.put, List.setIfInBounds_toArray, List.set_cons_zero, List.set_cons_succ]
        refine takeJ (i := 7) (v := .int .i64 now) 185 rfl rfl (by kernel_rfl) (by kernel_rfl) (by kernel_rfl) (by kernel_rfl) (fun _ _ _ h => h) (.inl ⟨by rfl, fun W hW => exec_move _ _ rfl rfl⟩) (S3 w4 b4) ?_
        try simp only [Act.put, List.setIfInBounds_toArray, List.set_cons_zero, List.set_cons_succ]
        refine takeJ (i := 8) (v := .int .i64 buf) 186 rfl rfl (by kernel_rfl) (by kernel_rfl) (by kernel_rfl) (by kernel_rfl) (fun _ _ _ h => h) (.inl ⟨by rfl, fun W hW => exec_move _ _ rfl rfl⟩) (S3 w4 b4) ?_
        try simp only [Act.put, List.setIfInBounds_toArray, List.set_cons_zero, List.set_cons_succ]
        refine nextJ (w' := w5) 9 187 (.slice (some ⟨p, 0, none⟩) 1 1) (by kernel_rfl) rfl rfl (by rfl) (by rw [hw5, hp]; exact exec_bsI _ buf rfl rfl) (S3 w5 b5) ?_
        try simp only [Act.put, List.setIfInBounds_toArray, List.set_cons_zero, List.set_cons_succ]
        refine takeJ (i := 10) (v := .agg (Nb.cells ⟨ip, 1, zM, now, now, 1, [buf]⟩ (.slice (some ⟨p, 0, none⟩) 1 1)).toArray) 188 rfl rfl (by kernel_rfl) (by kernel_rfl) (by kernel_rfl) (by kernel_rfl) (fun _ _ _ h => h) (.inl ⟨by rfl, fun W hW => exec_bldN _ _ _ _ ip.a ip.b ip.c ip.d now now (some ⟨p, 0, none⟩) 1 1 rfl rfl rfl rfl rfl (fun _ => rfl)⟩) (S3 w5 b5) ?_
        try simp only [Act.put, List.setIfInBounds_toArray, List.set_cons_zero, List.set_cons_succ]
        refine nextJ (w' := w6) 11 189 (.slice (some ⟨p + 1, 0, none⟩) 1 1) (by kernel_rfl) rfl rfl (by rfl) (by rw [hw6, ← sz5]; exact exec_bsN _ _ _ _ _ rfl rfl) (S3 w6 b6) ?_
        try simp only [Act.put, List.setIfInBounds_toArray, List.set_cons_zero, List.set_cons_succ]
        refine nextJ (w' := w7) 12 190 (.slice a7 (n + 1) c7) (by kernel_rfl) rfl rfl (by rfl) (exec_app _ _ 41 41 rfl lo (.slice (some ⟨p + 1, 0, none⟩) 1 1) rfl rfl 41 rfl hrun) (⟨l7, ci7⟩) ?_
        try simp only [Act.put, List.setIfInBounds_toArray, List.set_cons_zero, List.set_cons_succ]
        have S7 : w7.cell? ⟨b, 10, none⟩ = some lo ∧ CellsAt w7 s 0 ip.vals := ⟨l7, ci7⟩
        refine nextJ (w' := w7) 13 191 (.pointer (some ⟨b, 0, none⟩)) (by kernel_rfl) rfl rfl (by rfl) (exec_nil _ _ rfl rfl) (S7) ?_
        try simp only [Act.put, List.setIfInBounds_toArray, List.set_cons_zero, List.set_cons_succ]
        refine nextJ (w' := w7) 14 192 (.pointer (some ⟨b, 10, none⟩)) (by kernel_rfl) rfl rfl (by rfl) (exec_fieldO 43 _ 2 b 0 10 rfl rfl (fun w => by kernel_rfl)) (S7) ?_
        try simp only [Act.put, List.setIfInBounds_toArray, List.set_cons_zero, List.set_cons_succ]
        refine storeJ (w' := w8) 15 (by kernel_rfl) rfl rfl (by rfl) (by rw [hw8]; exact exec_store1 41 s1L _ _ rfl b 10 rfl lo _ rfl l7 f7 rfl) ((fun e => by simp at e)) ?_
        try simp only [Act.put, List.setIfInBounds_toArray, List.set_cons_zero, List.set_cons_succ]
        refine doneJ (by kernel_rfl) ?_ _
        clear hrun b7 l7 f7 h7 F7 M7 kp r6 r5 c6 b6 b5 b4 hw4 hw5 hw6 hw8 sz4 sz5 sz6 sz8 cs3 S3 ci7 cm7 fm7 bW8 hbW hsW b7s sp ks kt hp
        have RQ := hide (rrequest_any b m i ip H8.out.host)
        have i0 := CI8.out 0 _ rfl
        have i1 := CI8.out 1 _ rfl
        have i2 := CI8.out 2 _ rfl
        have i3 := CI8.out 3 _ rfl
        simp only [Nat.zero_add] at i0 i1 i2 i3
        rw [show ip.val = .agg #[.int .u8 ip.a, .int .u8 ip.b, .int .u8 ip.c, .int .u8 ip.d] from rfl] at RQ
        obtain ⟨r, hr⟩ : ∃ r : Ar, r = ⟨false, m, i, zM, ip⟩ := ⟨_, rfl⟩
        rw [← hr] at RQ
        go_wp2_with fail
        refine RQ.out.mono ?_
        rintro _ w9 ⟨rfl, b9⟩
        clear i0 i1 i2 i3 RQ
        have sz9 := b9.size
        obtain ⟨w10, hw10⟩ : ∃ w10, w10 = w9.alloc (.cells r.vals.toArray 27) := ⟨_, rfl⟩
        have b10 : Below w8.heap.size w8 w10 := by rw [hw10]; exact b9.alloc sz9 _
        have c10 : CellsAt w10 w9.heap.size 0 r.vals := by rw [hw10]; exact CellsAt.new w9 r.vals 27
        have f10 : ∀ j, w10.frozen? ⟨w9.heap.size, j, none⟩ = false := fun j => by rw [hw10]; exact frozen_new w9 _ _ _
        have sz10 : w10.heap.size = w9.heap.size + 1 := by rw [hw10]; simp
        have sp := SZ8.out
        have CM10 := hide (CM8.out.later (by omega) b10)
        have FM10 : Hid (∀ j, w10.frozen? ⟨s + 1, j, none⟩ = false) := fun j => (b10.frozen (p := ⟨s + 1, j, none⟩) (by show s + 1 < _; omega)).trans (FM8.out j)
        have FIN : Hid (FdEnd ρ k W b m i ip (fd ip buf now (Lt.map Prod.snd)) (.returned (.tuple #[zM.val, .slice none 0 0, .slice (some ⟨w9.heap.size, 0, none⟩) 1 1, .int .i64 80])) (w10.setCells (s + 1) 0 zM.vals)) := by
          unfold Hid
          rw [EF.out]
          have hW8 := M8.out.but.size
          refine FdEnd.put (ρ' := ρ') (r := ⟨zM, [], true, 80, Lo.map Prod.snd ++ [⟨ip, 1, zM, now, now, 1, [buf]⟩]⟩) ⟨_, _, by rw [List.map_append]; rfl, H8.out.later b10⟩ (F8.out.below b10.size) (M8.out.trans (Mv.below b10)) (s + 1) (by have := HS.out; omega) RS8.out.2 (RowN.nil _ _) ?_
          refine ⟨_, 1, rfl, Nat.le_refl _, by unfold maxLen; omega, (fun e => by cases e), fun ad e => ?_⟩
          cases e
          refine ⟨w9.heap.size, rfl, ⟨⟨F8.out _ sz9, .inl (by omega)⟩, by omega⟩, by omega, fun j hj => ?_, f10, fun q hq => ?_⟩
          · have := c10.is j hj
            rw [Nat.zero_add] at this
            exact this
          · have : q = 0 := by simp at hq; omega
            subst this
            rw [Nat.zero_mul]
            show CellsAt w10 w9.heap.size 0 (Ar.vals ⟨false, m, i, zM, ip⟩)
            rw [← hr]; exact c10
        obtain ⟨s9, hs9⟩ : ∃ s9, s9 = w9.heap.size := ⟨_, rfl⟩
        rw [← hs9] at FIN
        have LV := hide (run_loadVarA 23 6 aggM sizM (s + 1) 0 zM.vals rfl (CM10.out.stored rfl))
        clear c10 f10 sz10 b10 b9 sz9 sp
        have hw10' := hw10.symm
        have hs9' := hs9.symm
        have z0 := CM10.out 0 _ rfl
        have z1 := CM10.out 1 _ rfl
        have z2 := CM10.out 2 _ rfl
        have z3 := CM10.out 3 _ rfl
        have z4 := CM10.out 4 _ rfl
        have z5 := CM10.out 5 _ rfl
        simp only [Nat.zero_add] at z0 z1 z2 z3 z4 z5
        have zf := FM10.out
        clear hw10 hs9
        rename_i K hK
        refine hK _ _ ?_
        refine wpList_val rfl (exec_bsA (.tmp 196) r rfl rfl) ?_
        rw [hw10', hs9']
        clear hw10' hs9'
        go_wp2
        refine bodyPost_ret (v := .tuple #[zM.val, .slice none 0 0, .slice (some ⟨s9, 0, none⟩) 1 1, .int .i64 80]) ?_ rfl FIN.out
        exact results_4 rfl _ _ (s + 1) _ _ _ _ rfl rfl rfl rfl LV.out
end
end Go.Proofs.Ytdcpnjlldocdcaa
