
/-
  The document's answer: its buffers in memory; used, own, Hold, Free, Left, Get, New.
-/
import Derived.Test.YtjkfjijnjkpbbaaK6
namespace Go.Proofs.Ytjkfjijnjkpbbaa
open Go.RowKit

/-- nil, or at the head of a block -/
def Flat (v : Value) : Prop := v = .slice none 0 0 ∨ ∃ blk l c, v = .slice (some ⟨blk, 0, none⟩) l c
theorem Gro.flat {M : Nat} {W : World} {v : Value} {bs : List Int} (h : Gro M W v bs) : Flat v := by
  obtain ⟨_, ⟨rfl, _⟩ | ⟨g, cap, cur, rfl, _⟩⟩ := h
  · exact .inl rfl
  · exact .inr ⟨_, _, _, rfl⟩

/-- THE DOCUMENT'S POOL: its one cell in block b, its buffers in block g; no block of A (g is one) holds any of their bytes -/
structure RPool (A : Nat → Prop) (W : World) (b g n : Nat) (B : Nat → Buf) : Prop where
  ne : b ≠ g
  n0 : 0 < n
  n1 : n ≤ 4096
  ag : A g
  cell : W.cell? ⟨b, 0, none⟩ = some (.slice (some ⟨g, 0, none⟩) n n)
  fz : ∀ k, W.frozen? ⟨g, k, none⟩ = false
  refs : ∀ i, i < n → W.cell? ⟨g, i * 3, none⟩ = some (.int .i64 ((B i).refs : Int))
  head : ∀ i, i < n → ∃ v, W.cell? ⟨g, i * 3 + 1, none⟩ = some v ∧ IsF A W v (B i).head
  data : ∀ i, i < n → ∃ v, W.cell? ⟨g, i * 3 + 2, none⟩ = some v ∧ IsF A W v (B i).data ∧ Flat v
  dle : ∀ i, i < n → (B i).data.length ≤ 288

section
variable {A : Nat → Prop} {W W' : World} {b g n : Nat} {B : Nat → Buf}
theorem RPool.blt (H : RPool A W b g n B) : b < W.heap.size := World.block_lt_of_cell? W _ H.cell
theorem RPool.glt (H : RPool A W b g n B) : g < W.heap.size := World.block_lt_of_cell? W _ (H.refs 0 H.n0)
theorem RPool.but {K : Nat → Prop} (H : RPool A W b g n B) (hb : But K W W') (kb : ¬ K b) (kg : ¬ K g) (hk : ∀ x, K x → A x) : RPool A W' b g n B :=
  ⟨H.ne, H.n0, H.n1, H.ag, (hb.cell (p := ⟨b, 0, none⟩) H.blt kb).trans H.cell, fun k => (hb.frozen (p := ⟨g, k, none⟩) H.glt kg).trans (H.fz k), fun i hi => (hb.cell (p := ⟨g, i * 3, none⟩) H.glt kg).trans (H.refs i hi),
    fun i hi => by obtain ⟨v, h1, h2⟩ := H.head i hi; exact ⟨v, (hb.cell (p := ⟨g, i * 3 + 1, none⟩) H.glt kg).trans h1, h2.but hb hk⟩,
    fun i hi => by obtain ⟨v, h1, h2, h3⟩ := H.data i hi; exact ⟨v, (hb.cell (p := ⟨g, i * 3 + 2, none⟩) H.glt kg).trans h1, h2.but hb hk, h3⟩, H.dle⟩
theorem RPool.avoid {A' : Nat → Prop} (H : RPool A W b g n B) (hk : ∀ x, x < W.heap.size → A' x → A x) (hg : A' g) : RPool A' W b g n B :=
  ⟨H.ne, H.n0, H.n1, hg, H.cell, H.fz, H.refs, fun i hi => by obtain ⟨v, h1, h2⟩ := H.head i hi; exact ⟨v, h1, h2.avoid hk⟩, fun i hi => by obtain ⟨v, h1, h2, h3⟩ := H.data i hi; exact ⟨v, h1, h2.avoid hk, h3⟩, H.dle⟩
theorem RPool.later (H : RPool A W b g n B) (hb : Below W.heap.size W W') : RPool A W' b g n B := H.but (K := fun _ => False) (But.of_below hb) id id (fun _ e => e.elim)
theorem RPool.drew (H : RPool A W b g n B) : RPool A W.drew b g n B := H.but (K := fun _ => False) (But.refl _ _).drew id id (fun _ e => e.elim)
theorem RPool.al (H : RPool A W b g n B) (o : Obj) : RPool A (W.alloc o) b g n B := H.but (K := fun _ => False) ((But.refl _ _).alloc o) id id (fun _ e => e.elim)
/-- one buffer was turned -/
theorem RPool.turn (H : RPool A W b g n B) (i : Nat) {x : Buf} (hb : But (Only g) W W') (hf : ∀ k, W'.frozen? ⟨g, k, none⟩ = W.frozen? ⟨g, k, none⟩)
    (ho : ∀ k, k < i * 3 ∨ i * 3 + 3 ≤ k → W'.cell? ⟨g, k, none⟩ = W.cell? ⟨g, k, none⟩)
    (hr : i < n → W'.cell? ⟨g, i * 3, none⟩ = some (.int .i64 (x.refs : Int))) (hh : i < n → ∃ v, W'.cell? ⟨g, i * 3 + 1, none⟩ = some v ∧ IsF A W' v x.head) (hd : i < n → ∃ v, W'.cell? ⟨g, i * 3 + 2, none⟩ = some v ∧ IsF A W' v x.data ∧ Flat v) (hl : x.data.length ≤ 288) : RPool A W' b g n (upd B i x) := by
  have hk : ∀ y, Only g y → A y := fun y e => e ▸ H.ag
  have oth : ∀ j m, j ≠ i → m < 3 → W'.cell? ⟨g, j * 3 + m, none⟩ = W.cell? ⟨g, j * 3 + m, none⟩ := fun j m e hm => ho _ (by omega)
  refine ⟨H.ne, H.n0, H.n1, H.ag, (hb.cell (p := ⟨b, 0, none⟩) H.blt (fun e => H.ne e)).trans H.cell, fun k => (hf k).trans (H.fz k), fun j hj => ?_, fun j hj => ?_, fun j hj => ?_, fun j hj => ?_⟩
  · by_cases e : j = i
    · subst e; rw [upd_same]; exact hr hj
    · rw [upd_other _ _ _ _ e]; exact (oth j 0 e (by omega)).trans (H.refs j hj)
  · by_cases e : j = i
    · subst e; rw [upd_same]; exact hh hj
    · rw [upd_other _ _ _ _ e]
      obtain ⟨v, h1, h2⟩ := H.head j hj
      exact ⟨v, (oth j 1 e (by omega)).trans h1, h2.but hb hk⟩
  · by_cases e : j = i
    · subst e; rw [upd_same]; exact hd hj
    · rw [upd_other _ _ _ _ e]
      obtain ⟨v, h1, h2, h3⟩ := H.data j hj
      exact ⟨v, (oth j 2 e (by omega)).trans h1, h2.but hb hk, h3⟩
  · by_cases e : j = i
    · subst e; rw [upd_same]; exact hl
    · rw [upd_other _ _ _ _ e]; exact H.dle j hj
theorem RPool.setRefs (H : RPool A W b g n B) (i : Nat) (hi : i < n) (r : Nat) : RPool A (W.setCell ⟨g, i * 3, none⟩ (.int .i64 (r : Int))) b g n (upd B i { B i with refs := r }) := by
  have hb := (But.refl (Only g) W).cellb (i * 3) (.int .i64 (r : Int))
  have hk : ∀ y, Only g y → A y := fun y e => e ▸ H.ag
  refine H.turn i hb (fun k => World.frozen?_setCell ..) (fun k hk => setCell_out (by omega)) (fun _ => World.cell?_setCell_same' _ _ _ (by rw [H.refs i hi]; rfl)) (fun _ => ?_) (fun _ => ?_) (H.dle i hi)
  · obtain ⟨v, h1, h2⟩ := H.head i hi
    exact ⟨v, (setCell_out (by omega)).trans h1, h2.but hb hk⟩
  · obtain ⟨v, h1, h2, h3⟩ := H.data i hi
    exact ⟨v, (setCell_out (by omega)).trans h1, h2.but hb hk, h3⟩
theorem RPool.setHead (H : RPool A W b g n B) (i : Nat) (hi : i < n) (v : Value) (bs : List Int) (hv : IsF A W v bs) : RPool A (W.setCell ⟨g, i * 3 + 1, none⟩ v) b g n (upd B i { B i with head := bs }) := by
  have hb := (But.refl (Only g) W).cellb (i * 3 + 1) v
  have hk : ∀ y, Only g y → A y := fun y e => e ▸ H.ag
  obtain ⟨u, h1, h2⟩ := H.head i hi
  refine H.turn i hb (fun k => World.frozen?_setCell ..) (fun k hk => setCell_out (by omega)) (fun _ => (setCell_out (by omega)).trans (H.refs i hi)) (fun _ => ⟨v, World.cell?_setCell_same' _ _ _ (by rw [h1]; rfl), hv.but hb hk⟩) (fun _ => ?_) (H.dle i hi)
  obtain ⟨v, h1, h2, h3⟩ := H.data i hi
  exact ⟨v, (setCell_out (by omega)).trans h1, h2.but hb hk, h3⟩
theorem RPool.setData (H : RPool A W b g n B) (i : Nat) (hi : i < n) (v : Value) (bs : List Int) (hv : IsF A W v bs) (hp : Flat v) (hl : bs.length ≤ 288) : RPool A (W.setCell ⟨g, i * 3 + 2, none⟩ v) b g n (upd B i { B i with data := bs }) := by
  have hb := (But.refl (Only g) W).cellb (i * 3 + 2) v
  have hk : ∀ y, Only g y → A y := fun y e => e ▸ H.ag
  obtain ⟨u, h1, h2⟩ := H.data i hi
  refine H.turn i hb (fun k => World.frozen?_setCell ..) (fun k hk => setCell_out (by omega)) (fun _ => (setCell_out (by omega)).trans (H.refs i hi)) (fun _ => ?_) (fun _ => ⟨v, World.cell?_setCell_same' _ _ _ (by rw [h1]; rfl), hv.but hb hk, hp⟩) hl
  obtain ⟨v, h1, h2⟩ := H.head i hi
  exact ⟨v, (setCell_out (by omega)).trans h1, h2.but hb hk⟩
end

section
variable {A : Nat → Prop} {w : World} {b g n : Nat} {B : Nat → Buf}

theorem used_any (H : RPool A w b g n B) (id : Int) : Calls Try.prog 79 #[.pointer (some ⟨b, 0, none⟩), .int .i64 id] w fun e w' => e = .returned (.bool (usd n B id)) ∧ w' = w := by
  have c := H.cell
  have hn : (n : Int) ≤ 4096 := by have := H.n1; omega
  by_cases h0 : 0 ≤ id
  · by_cases h1 : id < n
    · obtain ⟨i, rfl⟩ : ∃ i : Nat, id = i := ⟨id.toNat, by omega⟩
      have k := H.refs i (by omega)
      by_cases hr : 0 < (B i).refs
      · rw [usd_nat (by omega) hr]
        have hr' : (0 : Int) < ((B i).refs : Int) := by omega
        generalize ((B i).refs : Int) = r at k hr'
        clear H hr
        go_enter Try.func79, Try.ntmps79
        go_wp2
        go_ret
        exact ⟨rfl, rfl⟩
      · rw [show usd n B (i : Int) = false from by unfold usd; simp; omega]
        rw [show (B i).refs = 0 from by omega] at k
        clear H hr
        go_enter Try.func79, Try.ntmps79
        go_wp2
        go_ret
        exact ⟨rfl, rfl⟩
    · rw [show usd n B id = false from by unfold usd; exact decide_eq_false (fun h => h1 h.2.1)]
      clear H
      go_enter Try.func79, Try.ntmps79
      go_wp2
      go_ret
      exact ⟨rfl, rfl⟩
  · rw [show usd n B id = false from by unfold usd; exact decide_eq_false (fun h => h0 h.1)]
    clear H
    go_enter Try.func79, Try.ntmps79
    go_wp2
    go_ret
    exact ⟨rfl, rfl⟩

theorem own_any (H : RPool A w b g n B) (id : Int) : Calls Try.prog 92 #[.pointer (some ⟨b, 0, none⟩), .int .i64 id] w fun e w' => e = .returned (.int .i64 (owE n B id)) ∧ w' = w := by
  have U := hide (used_any H id)
  have c := H.cell
  have hn : (n : Int) ≤ 4096 := by have := H.n1; omega
  unfold owE
  cases hu : usd n B id with
  | false =>
    rw [if_neg (by simp)]
    rw [hu] at U
    clear H hu
    go_enter Try.func92, Try.ntmps92
    go_wp2_with fail
    refine U.out.mono ?_
    rintro e w1 ⟨rfl, rfl⟩
    go_wp2
    go_ret
    exact ⟨rfl, rfl⟩
  | true =>
    rw [if_pos rfl]
    rw [hu] at U
    obtain ⟨i, rfl, hi, hr⟩ := usd_yes hu
    rw [Int.toNat_natCast]
    have k := H.refs i hi
    have z1 : (i : Int) < n := by omega
    by_cases h1 : 1 < (B i).refs
    · rw [if_pos h1]
      have hr' : (1 : Int) < ((B i).refs : Int) := by omega
      generalize ((B i).refs : Int) = r at k hr'
      clear H hu hr h1
      go_enter Try.func92, Try.ntmps92
      go_wp2_with fail
      refine U.out.mono ?_
      rintro e w1 ⟨rfl, rfl⟩
      go_wp2
      go_ret
      exact ⟨rfl, rfl⟩
    · rw [if_neg h1]
      rw [show (B i).refs = 1 from by omega] at k
      clear H hu hr h1
      go_enter Try.func92, Try.ntmps92
      go_wp2_with fail
      refine U.out.mono ?_
      rintro e w1 ⟨rfl, rfl⟩
      go_wp2
      go_ret
      exact ⟨rfl, rfl⟩

theorem rHold_any (H : RPool A w b g n B) (id : Int) (hm : (B id.toNat).refs < 4611686018427387904) :
    Calls Try.prog 74 #[.pointer (some ⟨b, 0, none⟩), .int .i64 id] w fun e w' => e = .returned (.int .i64 (hoE n B id)) ∧ RPool A w' b g n (hoB n B id) ∧ But (Only g) w w' := by
  have U := hide (used_any H id)
  have c := H.cell
  have HH := hide H
  have hn : (n : Int) ≤ 4096 := by have := H.n1; omega
  unfold hoE hoB
  cases hu : usd n B id with
  | false =>
    rw [if_neg (by simp), if_neg (by simp)]
    rw [hu] at U
    clear H hu hm
    go_enter Try.func74, Try.ntmps74
    go_wp2_with fail
    refine U.out.mono ?_
    rintro e w1 ⟨rfl, rfl⟩
    go_wp2
    go_ret
    exact ⟨rfl, HH.out, But.refl _ _⟩
  | true =>
    rw [hu] at U
    obtain ⟨i, rfl, hi, hr⟩ := usd_yes hu
    rw [if_pos rfl, if_pos rfl, Int.toNat_natCast]
    rw [Int.toNat_natCast] at hm
    have k := H.refs i hi
    have fz := H.fz (i * 3)
    have S := hide (H.setRefs i hi ((B i).refs + 1))
    have e1 : (((B i).refs + 1 : Nat) : Int) = ((B i).refs : Int) + 1 := by omega
    rw [e1] at S
    have hm1 : ((B i).refs : Int) < 4611686018427387904 := by omega
    have hm0 : (0 : Int) ≤ ((B i).refs : Int) := by omega
    have z1 : (i : Int) < n := by omega
    generalize ((B i).refs : Int) = r at k hm1 hm0 S
    clear H hu hr e1 hm
    go_enter Try.func74, Try.ntmps74
    go_wp2_with fail
    refine U.out.mono ?_
    rintro e w1 ⟨rfl, rfl⟩
    go_wp2
    go_ret
    exact ⟨rfl, S.out, (But.refl _ _).cellb _ _⟩

theorem rFree_any (H : RPool A w b g n B) (id : Int) (hm : (B id.toNat).refs < 4611686018427387904) :
    Calls Try.prog 76 #[.pointer (some ⟨b, 0, none⟩), .int .i64 id] w fun e w' => e = .returned (.int .i64 (hoE n B id)) ∧ RPool A w' b g n (frB n B id) ∧ But (Only g) w w' := by
  have U := hide (used_any H id)
  have c := H.cell
  have HH := hide H
  have hn : (n : Int) ≤ 4096 := by have := H.n1; omega
  unfold hoE frB
  cases hu : usd n B id with
  | false =>
    rw [if_neg (by simp), if_neg (by simp)]
    rw [hu] at U
    clear H hu hm
    go_enter Try.func76, Try.ntmps76
    go_wp2_with fail
    refine U.out.mono ?_
    rintro e w1 ⟨rfl, rfl⟩
    go_wp2
    go_ret
    exact ⟨rfl, HH.out, But.refl _ _⟩
  | true =>
    rw [hu] at U
    obtain ⟨i, rfl, hi, hr⟩ := usd_yes hu
    rw [if_pos rfl, if_pos rfl, Int.toNat_natCast]
    rw [Int.toNat_natCast] at hm
    have k := H.refs i hi
    have fz := H.fz (i * 3)
    have S := hide (H.setRefs i hi ((B i).refs - 1))
    have e1 : (((B i).refs - 1 : Nat) : Int) = ((B i).refs : Int) - 1 := by omega
    rw [e1] at S
    have hm1 : ((B i).refs : Int) < 4611686018427387904 := by omega
    have hm0 : (0 : Int) < ((B i).refs : Int) := by omega
    have z1 : (i : Int) < n := by omega
    generalize ((B i).refs : Int) = r at k hm1 hm0 S
    clear H hu hr e1 hm
    go_enter Try.func76, Try.ntmps76
    go_wp2_with fail
    refine U.out.mono ?_
    rintro e w1 ⟨rfl, rfl⟩
    go_wp2
    go_ret
    exact ⟨rfl, S.out, (But.refl _ _).cellb _ _⟩

theorem rLeft_any (H : RPool A w b g n B) : Calls Try.prog 45 #[.pointer (some ⟨b, 0, none⟩)] w fun e w' => e = .returned (.int .i64 (lft B n : Int)) ∧ w' = w := by
  have c := H.cell
  have F := hide H.refs
  have hn : n ≤ 4096 := H.n1
  clear H
  go_enter Try.func45, Try.ntmps45
  go_wp2
  go_loop [3, 4] (fun v3 v4 => ∃ k : Nat, v4 = .int .i64 (k : Int) ∧ v3 = .int .i64 (lft B k : Int) ∧ k ≤ n) (fun _ v4 => n - (intOf v4).toNat)
  case atStart => exact ⟨0, rfl, rfl, Nat.zero_le _⟩
  case round =>
    obtain ⟨k, rfl, rfl, hk⟩ := hrel
    by_cases hlt : k < n
    · have F1 := F.out k hlt
      have h1 : (k : Int) < n := by omega
      have hb := lft_le B k
      have hb2 : (lft B k : Int) ≤ 4096 := by omega
      have E : Hid (lft B (k + 1) = lft B k + if (B k).refs = 0 then 1 else 0) := rfl
      obtain ⟨l, hl⟩ : ∃ l, l = lft B k := ⟨_, rfl⟩
      rw [← hl] at E hb2 hb ⊢
      clear hl
      by_cases e : (B k).refs = 0
      · rw [e] at F1
        have E2 : Hid (lft B (k + 1) = l + 1) := by show _ = _; rw [E.out, if_pos e]
        clear E e
        go_wp2
        go_round
        case rel => exact ⟨k + 1, by go_num, by rw [E2.out]; go_num, by omega⟩
        case measure => simp [intOf]; omega
      · have q : (((B k).refs : Int) == 0) = false := beq_no (by omega)
        have E2 : Hid (lft B (k + 1) = l) := by show _ = _; rw [E.out, if_neg e]; rfl
        generalize ((B k).refs : Int) = r at F1 q
        clear E e
        go_wp2
        go_round
        case rel => exact ⟨k + 1, by go_num, by rw [E2.out], by omega⟩
        case measure => simp [intOf]; omega
    · obtain rfl : k = n := by omega
      go_wp2
      go_ret
      exact ⟨rfl, rfl⟩

theorem rGet_yes (H : RPool A w b g n B) (i : Nat) (hi : i < n) (h0 : (B i).refs = 0) (hl : ∀ j, j < i → (B j).refs ≠ 0) :
    Calls Try.prog 68 #[.pointer (some ⟨b, 0, none⟩)] w fun e w' => e = .returned (.tuple #[.int .i64 (i : Int), .int .i64 0]) ∧ RPool A w' b g n (upd B i ⟨1, [], []⟩) ∧ But (Only g) w w' := by
  have c := H.cell
  have F := hide H.refs
  have hn : n ≤ 4096 := H.n1
  have HL := hide hl
  have H0 := hide h0
  have f0 := H.fz (i * 3)
  have f1 := H.fz (i * 3 + 1)
  have f2 := H.fz (i * 3 + 2)
  obtain ⟨u1, k1, _⟩ := H.head i hi
  obtain ⟨u2, k2, _⟩ := H.data i hi
  have k0 := H.refs i hi
  rw [h0] at k0
  have fin := hide (((H.setRefs i hi 1).setHead i hi (.slice none 0 0) [] (IsF.nil _ _)).setData i hi (.slice none 0 0) [] (IsF.nil _ _) (.inl rfl) (by simp))
  rw [upd_upd, upd_same, upd_upd, upd_same] at fin
  clear H hl h0
  go_enter Try.func68, Try.ntmps68
  go_wp2
  go_loop [4] (fun v4 => ∃ k : Nat, v4 = .int .i64 (k : Int) ∧ k ≤ i) (fun v4 => n - (intOf v4).toNat)
  case atStart => exact ⟨0, rfl, Nat.zero_le _⟩
  case round =>
    obtain ⟨k, rfl, hk⟩ := hrel
    have h1 : (k : Int) < n := by omega
    by_cases e : k = i
    · subst e
      go_wp2
      go_ret2
      exact ⟨rfl, fin.out, (((But.refl _ _).cellb _ _).cellb _ _).cellb _ _⟩
    · have F1 := F.out k (by omega)
      have q : (((B k).refs : Int) == 0) = false := beq_no (by have := HL.out k (by omega); omega)
      generalize ((B k).refs : Int) = r at F1 q
      go_wp2
      go_round
      case rel => exact ⟨k + 1, by go_num, by omega⟩
      case measure => simp [intOf]; omega

theorem rGet_no (H : RPool A w b g n B) (hl : ∀ j, j < n → (B j).refs ≠ 0) :
    Calls Try.prog 68 #[.pointer (some ⟨b, 0, none⟩)] w fun e w' => e = .returned (.tuple #[.int .i64 0, .int .i64 8]) ∧ w' = w := by
  have c := H.cell
  have F := hide H.refs
  have hn : n ≤ 4096 := H.n1
  have HL := hide hl
  clear H hl
  go_enter Try.func68, Try.ntmps68
  go_wp2
  go_loop [4] (fun v4 => ∃ k : Nat, v4 = .int .i64 (k : Int) ∧ k ≤ n) (fun v4 => n - (intOf v4).toNat)
  case atStart => exact ⟨0, rfl, Nat.zero_le _⟩
  case round =>
    obtain ⟨k, rfl, hk⟩ := hrel
    by_cases e : k = n
    · subst e
      go_wp2
      go_ret2
      exact ⟨rfl, rfl⟩
    · have hlt : k < n := by omega
      have F1 := F.out k hlt
      have h1 : (k : Int) < n := by omega
      have q : (((B k).refs : Int) == 0) = false := beq_no (by have := HL.out k hlt; omega)
      generalize ((B k).refs : Int) = r at F1 q
      go_wp2
      go_round
      case rel => exact ⟨k + 1, by go_num, by omega⟩
      case measure => simp [intOf]; omega
end

theorem rNew_no (w : World) (many : Int) (h : many < 1 ∨ 4096 < many) : Calls Try.prog 30 #[.int .i64 many] w fun e w' => e = .returned (.tuple #[.pointer none, .int .i64 1]) ∧ w' = w := by
  by_cases h1 : many < 1
  · clear h
    go_enter Try.func30, Try.ntmps30
    go_wp2
    go_ret2
    exact ⟨rfl, rfl⟩
  · have h2 : 4096 < many := by omega
    clear h
    go_enter Try.func30, Try.ntmps30
    go_wp2
    go_ret2
    exact ⟨rfl, rfl⟩

theorem info_rb : (Try.prog.info? 35).map (fun i => (i.zero, i.size, i.bytes)) = some (some (.agg #[.int .i64 0, .slice none 0 0, .slice none 0 0]), 3, 56) := by kernel_rfl

theorem made3 (n k m : Nat) (hk : k < n) (hm : m < 3) : (madeCells #[Value.int .i64 0, .slice none 0 0, .slice none 0 0] (n * 3)).toList[k * 3 + m]? = some ((#[Value.int .i64 0, .slice none 0 0, .slice none 0 0] : Array Value)[m]!) := by
  have hj : k * 3 + m < n * 3 := by omega
  have e1 : (madeCells #[Value.int .i64 0, .slice none 0 0, .slice none 0 0] (n * 3)).toList[k * 3 + m]? = (madeCells #[Value.int .i64 0, .slice none 0 0, .slice none 0 0] (n * 3))[k * 3 + m]? := by simp
  rw [e1]
  unfold madeCells
  rw [Array.getElem?_map, Array.getElem?_range, if_pos hj, Option.map_some]
  have e2 : (k * 3 + m) % (#[Value.int .i64 0, .slice none 0 0, .slice none 0 0] : Array Value).size = m := by show (k * 3 + m) % 3 = m; omega
  rw [e2]

set_option maxRecDepth 100000 in
theorem rNew_yes (w : World) (n : Nat) (h0 : 0 < n) (h1 : n ≤ 4096) : Calls Try.prog 30 #[.int .i64 (n : Int)] w fun e w' => ∃ b, e = .returned (.tuple #[.pointer (some ⟨b, 0, none⟩), .int .i64 0]) ∧ (∀ A : Nat → Prop, A w.heap.size → RPool A w' b w.heap.size n none4) ∧ Below w.heap.size w w' ∧ w.heap.size < b := by
  obtain ⟨i0, hi, hz0, hz1, hz2⟩ := info_parts info_rb
  have q1 : (1 : Int) ≤ n := by omega
  have q2 : (n : Int) ≤ 4096 := by omega
  go_enter Try.func30, Try.ntmps30
  go_wp2_with (at_make; refine wpList_make_full _ rfl _ _ 88 rfl w.heap.size 35 i0 (.agg #[.int .i64 0, .slice none 0 0, .slice none 0 0]) 3 Try.underlying88 hi hz0 hz1 .i64 .i64 _ _ n rfl rfl rfl rfl (by rw [hz2]; omega) (by unfold maxLen; omega) (Nat.le_refl _) ?_)
  intro w1 hown hg
  have hB1 : Below w.heap.size w w1 := (Below.refl _ w).grown hg (Nat.le_refl _) (fun k e => by cases e)
  have hf : ∀ k, w1.frozen? ⟨w.heap.size, k, none⟩ = false := fun k => World.ownsRow.frozenAt hown k
  have hc : ∀ k m, k < n → m < 3 → w1.cell? ⟨w.heap.size, k * 3 + m, none⟩ = some ((#[Value.int .i64 0, .slice none 0 0, .slice none 0 0] : Array Value)[m]!) := fun k m hk hm => (World.ownsRow.cellAt hown (k * 3 + m) (by omega)).trans (made3 n k m hk hm)
  have HF := hide hf
  have HC := hide hc
  have HB1 := hide hB1
  have hlt : w.heap.size < w1.heap.size := World.block_lt_of_cell? w1 _ (hc 0 0 h0 (by omega))
  have HLT := hide hlt
  clear hown hg hf hc hB1 hi hz0 hz1 hz2 hlt
  go_wp2
  go_ret2
  have bA : But (fun _ => False) w1 (w1.alloc (.cells #[.slice (some ⟨w.heap.size, 0, none⟩) n n] 90)) := (But.refl _ _).alloc _
  have kc : ∀ k m, k < n → m < 3 → (w1.alloc (.cells #[.slice (some ⟨w.heap.size, 0, none⟩) n n] 90)).cell? ⟨w.heap.size, k * 3 + m, none⟩ = some ((#[Value.int .i64 0, .slice none 0 0, .slice none 0 0] : Array Value)[m]!) := fun k m hk hm => (bA.cell (p := ⟨w.heap.size, k * 3 + m, none⟩) HLT.out id).trans (HC.out k m hk hm)
  refine ⟨w1.heap.size, rfl, fun A hA => ⟨by have := HLT.out; omega, h0, h1, hA, ?_, fun k => (bA.frozen (p := ⟨w.heap.size, k, none⟩) HLT.out id).trans (HF.out k), fun i hi => kc i 0 hi (by omega), fun i hi => ⟨_, kc i 1 hi (by omega), IsF.nil _ _⟩, fun i hi => ⟨_, kc i 2 hi (by omega), IsF.nil _ _, .inl rfl⟩, fun i _ => by simp [none4]⟩, HB1.out.alloc (by have := HB1.out.size; omega) _, HLT.out⟩
  rw [cell_of_row _ w1.heap.size 0 _ 90 (0, 0) (heap_alloc_new w1 _)]
  rfl

end Go.Proofs.Ytjkfjijnjkpbbaa
