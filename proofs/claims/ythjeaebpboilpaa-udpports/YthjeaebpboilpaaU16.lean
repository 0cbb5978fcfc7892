
/-
  The document's ports: Bind.
-/
import Derived.Test.YthjeaebpboilpaaU15
namespace Go.Proofs.Ythjeaebpboilpaa
open Go.RowKit Go.Shelf

/-- the port that is tried after k others -/
def pos (nx : Int) (k : Nat) : Int := 49152 + (nx - 49152 + k) % 16384
theorem pos_bd (nx : Int) (k : Nat) : 49152 ≤ pos nx k ∧ pos nx k ≤ 65535 := by unfold pos; omega
theorem pos_zero {nx : Int} (n0 : 49152 ≤ nx) (n1 : nx ≤ 65535) : pos nx 0 = nx := by unfold pos; omega
theorem pos_succ (nx : Int) (k : Nat) : pos nx (k + 1) = if pos nx k = 65535 then 49152 else pos nx k + 1 := by
  unfold pos
  split <;> omega
theorem pos_none {nx : Int} {L : List Po} (h : ∀ j : Nat, j < 16384 → otk (pos nx j) L = true) : FF nx L 0 := by
  refine .inl ⟨rfl, fun q h0 h1 => ?_⟩
  have := h ((q - nx) % 16384).toNat (by omega)
  have e : pos nx ((q - nx) % 16384).toNat = q := by unfold pos; omega
  rw [e] at this
  exact this
theorem pos_some {nx : Int} {L : List Po} {k : Nat} (n0 : 49152 ≤ nx) (n1 : nx ≤ 65535) (hk : k < 16384) (h : ∀ j : Nat, j < k → otk (pos nx j) L = true) (ht : otk (pos nx k) L = false) : FF nx L (pos nx k) := by
  have hp : ∀ q : Int, 49152 ≤ q → q ≤ 65535 → (q - nx) % 16384 < k → otk q L = true := fun q h0 h1 h2 => by
    have h3 := h ((q - nx) % 16384).toNat (by omega)
    have e : pos nx ((q - nx) % 16384).toNat = q := by unfold pos; omega
    rw [e] at h3
    exact h3
  obtain ⟨p, hpe⟩ : ∃ p, p = pos nx k := ⟨_, rfl⟩
  have hb := pos_bd nx k
  rw [← hpe] at ht hb ⊢
  have hpk : (p - nx) % 16384 = k := by rw [hpe]; unfold pos; omega
  by_cases e : nx ≤ p
  · exact .inr (.inl ⟨e, hb.2, ht, fun q h0 h1 => hp q (by omega) (by omega) (by omega)⟩)
  · exact .inr (.inr ⟨hb.1, by omega, ht, fun q h0 h1 => hp q (by omega) (by omega) (by omega), fun q h0 h1 => hp q (by omega) (by omega) (by omega)⟩)
theorem FF.uniq {nx : Int} {L : List Po} {p q : Int} (h : FF nx L p) (h2 : FF nx L q) (n0 : 49152 ≤ nx) (n1 : nx ≤ 65535) : p = q := by
  have no : ∀ x : Int, otk x L = true → otk x L = false → False := fun x a b => by rw [a] at b; cases b
  rcases h with ⟨a1, a2⟩ | ⟨a1, a2, a3, a4⟩ | ⟨a1, a2, a3, a4, a5⟩ <;> rcases h2 with ⟨b1, b2⟩ | ⟨b1, b2, b3, b4⟩ | ⟨b1, b2, b3, b4, b5⟩
  · omega
  · exact (no q (a2 q (by omega) b2) b3).elim
  · exact (no q (a2 q b1 (by omega)) b3).elim
  · exact (no p (b2 p (by omega) a2) a3).elim
  · by_cases e : p = q
    · exact e
    · by_cases e2 : p < q
      · exact (no p (b4 p a1 e2) a3).elim
      · exact (no q (a4 q b1 (by omega)) b3).elim
  · exact (no p (b4 p a1 a2) a3).elim
  · exact (no p (b2 p a1 (by omega)) a3).elim
  · exact (no q (a4 q b1 b2) b3).elim
  · by_cases e : p = q
    · exact e
    · by_cases e2 : p < q
      · exact (no p (b5 p a1 e2) a3).elim
      · exact (no q (a5 q b1 (by omega)) b3).elim
/-- what the document keeps as the next port -/
def nxD (nd nx : Int) : Prop := nd = nx ∨ (nd = 0 ∧ nx = 49152)
set_option maxRecDepth 100000 in
set_option maxHeartbeats 8000000 in
theorem rBind_any {w : World} {q : Nat} {O : Nat → Prop} {L : List Po} {nd nx : Int} (h : DPo w q O L nd) (hnd : nxD nd nx) (n0 : 49152 ≤ nx) (n1 : nx ≤ 65535) (hl : L.length ≤ 900) (ck : Nat) (who port : Int) :
    Calls Try.prog 18 #[.pointer (some ⟨q, 0, none⟩), .int .i64 who, .int .i64 port] w fun e w' => ∃ r err L' ck' nx' nd', e = .returned (.tuple #[.int .i64 r, .int .i64 err]) ∧ Bnd nx L ck who port r err L' ck' nx' ∧ nxD nd' nx' ∧ DPo w' q (fun g => O g ∨ w.heap.size ≤ g ∧ g < w'.heap.size) L' nd' ∧ But (fun g => g = q ∨ O g) w w' := by
  have lq : q < w.heap.size := h.lt
  have H := hide h
  have HND := hide hnd
  have c1 := h.c1
  have f1 := h.fz 1
  have KEEP : Hid (∀ (W : World) (M : List Po) (n : Int), DPo W q O M n → DPo W q (fun g => O g ∨ w.heap.size ≤ g ∧ g < W.heap.size) M n) := fun W M n hW =>
    hW.own (fun g _ e => .inl e) (fun e => by
      rcases e with e | e
      · exact hW.nq e
      · omega)
  clear h hnd
  by_cases g1 : port < 0
  · have BD : Hid (Bnd nx L ck who port 0 1 L ck nx) := .inl ⟨.inl ⟨by omega, by unfold prt; simp; omega⟩, rfl, rfl, rfl, rfl, rfl⟩
    go_enter Try.func18, Try.ntmps18
    go_wp2
    refine bodyPost_ret (v := .tuple #[.int .i64 0, .int .i64 1]) (by simp [results, go_sem]) rfl ?_
    first
      | exact ⟨0, 1, L, ck, nx, nd, rfl, BD.out, HND.out, KEEP.out _ _ _ H.out, But.refl _ _⟩
      | exact ⟨0, 1, rfl, L, ck, nx, BD.out, nd, HND.out, KEEP.out _ _ _ H.out, But.refl _ _⟩
      | exact ⟨0, 1, rfl, L, ck, nx, nd, BD.out, HND.out, KEEP.out _ _ _ H.out, But.refl _ _⟩
  by_cases g2 : (65535 : Int) < port
  · have BD : Hid (Bnd nx L ck who port 0 1 L ck nx) := .inl ⟨.inl ⟨by omega, by unfold prt; simp; omega⟩, rfl, rfl, rfl, rfl, rfl⟩
    go_enter Try.func18, Try.ntmps18
    go_wp2
    refine bodyPost_ret (v := .tuple #[.int .i64 0, .int .i64 1]) (by simp [results, go_sem]) rfl ?_
    first
      | exact ⟨0, 1, L, ck, nx, nd, rfl, BD.out, HND.out, KEEP.out _ _ _ H.out, But.refl _ _⟩
      | exact ⟨0, 1, rfl, L, ck, nx, BD.out, nd, HND.out, KEEP.out _ _ _ H.out, But.refl _ _⟩
      | exact ⟨0, 1, rfl, L, ck, nx, nd, BD.out, HND.out, KEEP.out _ _ _ H.out, But.refl _ _⟩
  by_cases g3 : who < 0
  · have BD : Hid (Bnd nx L ck who port 0 1 L ck nx) := .inl ⟨.inr g3, rfl, rfl, rfl, rfl, rfl⟩
    go_enter Try.func18, Try.ntmps18
    go_wp2
    refine bodyPost_ret (v := .tuple #[.int .i64 0, .int .i64 1]) (by simp [results, go_sem]) rfl ?_
    first
      | exact ⟨0, 1, L, ck, nx, nd, rfl, BD.out, HND.out, KEEP.out _ _ _ H.out, But.refl _ _⟩
      | exact ⟨0, 1, rfl, L, ck, nx, BD.out, nd, HND.out, KEEP.out _ _ _ H.out, But.refl _ _⟩
      | exact ⟨0, 1, rfl, L, ck, nx, nd, BD.out, HND.out, KEEP.out _ _ _ H.out, But.refl _ _⟩
  go_enter Try.func18, Try.ntmps18
  go_upto_if 28 with fail
  go_cut [] (fun wc => Hid (DPo wc q O L nx) ∧ Hid (But (fun g => g = q ∨ O g) w wc))
  case first =>
    by_cases e : nd = 0
    · have NX : nx = 49152 := by rcases HND.out with e2 | e2 <;> omega
      obtain ⟨w3, hw3⟩ : ∃ w3, w3 = w.setCell ⟨q, 1, none⟩ (.int .i64 49152) := ⟨_, rfl⟩
      have P3 : Hid (DPo w3 q O L nx ∧ But (Only q) w w3) := by rw [hw3, NX]; exact H.out.next 49152
      have hw3' := hw3.symm
      subst e
      clear hw3 NX
      go_wp2
      go_meet
      case rel => exact ⟨P3.out.1, P3.out.2.mono (fun g e => .inl e)⟩
    · have NX : nd = nx := by rcases HND.out with e2 | e2 <;> omega
      have z : (nd == 0) = false := by simpa using e
      have P3 : Hid (DPo w q O L nx) := by rw [← NX]; exact H.out
      clear NX
      go_wp2
      go_meet
      case rel => exact ⟨P3.out, But.refl _ _⟩
  case rest =>
    obtain ⟨P3, B3⟩ := hcut
    obtain ⟨w3, hw3⟩ : ∃ w3, w3 = wc := ⟨_, rfl⟩
    rw [← hw3] at P3 B3 ⊢
    clear hw3 H c1 f1
    have HL : Hid (L.length ≤ 900) := hl
    have B3S : Hid (w.heap.size ≤ w3.heap.size) := B3.out.size
    have APP : Hid (∀ (W : World) (p n : Int), DPo W q O L n → But (fun g => g = q ∨ O g) w W → ∃ va vc a' c' w2 w9, W.cell? ⟨q, 0, none⟩ = some (.slice va L.length vc) ∧ (Builtin.append_ #[38, 38] 38 #[.slice va L.length vc, .slice (some ⟨W.heap.size, 0, none⟩) 1 1]).run Try.prog (W.alloc (.cells #[.int .i64 p, .int .i64 who] 49)) = .ok (.slice a' (L.length + 1) c') w2 ∧ w2.cell? ⟨q, 0, none⟩ = some (.slice va L.length vc) ∧ w2.frozen? ⟨q, 0, none⟩ = false ∧ w2.setCell ⟨q, 0, none⟩ (.slice a' (L.length + 1) c') = w9 ∧ DPo w9 q (fun g => O g ∨ w.heap.size ≤ g ∧ g < w9.heap.size) (L ++ [⟨p, who, ck⟩]) n ∧ But (fun g => g = q ∨ O g) w w9) := fun W p n hW hB => by
      obtain ⟨v, cv, rv⟩ := hW.row
      obtain ⟨va, vc, rfl⟩ := rv.shape
      obtain ⟨a', c', w2, hrun, r2, bo2⟩ := row_port rv rfl (by have := HL.out; omega) ⟨p, who, ck⟩
      have lW : q < W.heap.size := hW.lt
      have h2 : DPo w2 q O L n ∨ True := .inr trivial
      have c2 := (bo2.cell (p := ⟨q, 0, none⟩) lW hW.nq).trans cv
      have f2 := (bo2.frozen (p := ⟨q, 0, none⟩) lW hW.nq).trans (hW.fz 0)
      have b9 : But (Only q) w2 (w2.setCell ⟨q, 0, none⟩ (.slice a' (L.length + 1) c')) := (But.refl (Only q) w2).cellb (b := q) rfl 0 _
      have l2 : q < w2.heap.size := Nat.lt_of_lt_of_le lW bo2.size
      refine ⟨va, vc, a', c', w2, _, cv, hrun, c2, f2, rfl, ⟨⟨_, World.cell?_setCell_same _ _ _ c2, ?_⟩, ?_, fun y => ?_, ?_⟩, (hB.trans (bo2.mono (fun g e => .inr e))).trans (b9.mono (fun g e => .inl e))⟩
      · refine (r2.but b9 (fun g e e2 => ?_)).own (fun g hg e => ?_)
        · have e2 : g = q := e2
          rcases e with e | e
          · exact hW.nq (e2 ▸ e)
          · omega
        · rcases e with e | e
          · exact .inl e
          · exact .inr ⟨Nat.le_trans hB.size e.1, hg⟩
      · rw [setCell_out (by decide)]; exact (bo2.cell (p := ⟨q, 1, none⟩) lW hW.nq).trans hW.c1
      · rw [World.frozen?_setCell]; exact (bo2.frozen (p := ⟨q, y, none⟩) lW hW.nq).trans (hW.fz y)
      · intro e
        rcases e with e | e
        · exact hW.nq e
        · omega
    by_cases ep : port = 0
    · have c3 := P3.out.c1
      have WHO := hide (fun n => rWho_any P3.out (by have := HL.out; omega) n)
      have PZ : pos nx 0 = nx := pos_zero n0 n1
      subst ep
      go_wp2
      go_loopw [2, 8, 9] (fun v2 v8 v9 wr => ∃ k : Nat, v2 = .int .i64 0 ∧ v8 = .int .i64 (pos nx k) ∧ v9 = .int .i64 (k : Int) ∧ k ≤ 16384 ∧ Hid (∀ j : Nat, j < k → otk (pos nx j) L = true) ∧ w3 = wr) (fun _ _ v9 _ => 16384 - (intOf v9).toNat)
      case atStart => exact ⟨0, rfl, by rw [PZ], rfl, Nat.zero_le _, (fun j hj => by omega), rfl⟩
      case round =>
        obtain ⟨k, rfl, rfl, rfl, hk, HT, hwr⟩ := hrel
        rw [← hwr]
        clear hwr PZ
        by_cases hlt : k < 16384
        · obtain ⟨p, hp⟩ : ∃ p, p = pos nx k := ⟨_, rfl⟩
          obtain ⟨p0, p1⟩ := pos_bd nx k
          rw [← hp] at p0 p1 ⊢
          have W1 := hide (WHO.out p)
          have iz : (k : Int) < 16384 := by omega
          obtain ⟨ow, how⟩ : ∃ ow, ow = owh p L := ⟨_, rfl⟩
          obtain ⟨tk, htk⟩ : ∃ tk, tk = otk p L := ⟨_, rfl⟩
          rw [← how, ← htk] at W1
          have HTK := hide htk
          have HP := hide hp
          clear htk how hp
          go_wp2_with fail
          refine W1.out.mono ?_
          rintro _ wx ⟨rfl, hw⟩
          rw [hw]
          clear hw wx W1
          cases tk with
          | true =>
            have HT2 : Hid (∀ j : Nat, j < k + 1 → otk (pos nx j) L = true) := fun j hj => by
              by_cases ej : j = k
              · rw [ej, ← HP.out]; exact HTK.out.symm
              · exact HT.out j (by omega)
            have PS := hide (pos_succ nx k)
            rw [← HP.out] at PS
            by_cases e5 : p = 65535
            · have PN : Hid (pos nx (k + 1) = 49152) := by rw [PS.out, if_pos e5]; exact rfl
              subst e5
              clear PS
              go_wp2
              go_roundw
              case rel => exact ⟨k + 1, rfl, by rw [PN.out], by go_num, by omega, HT2.out, trivial⟩
              case measure => simp [intOf]; omega
            · have PN : Hid (pos nx (k + 1) = p + 1) := by rw [PS.out, if_neg e5]; exact rfl
              have p2 : ¬ (65535 : Int) < p + 1 := by omega
              clear PS
              go_wp2
              go_roundw
              case rel => exact ⟨k + 1, rfl, by rw [PN.out], by go_num, by omega, HT2.out, trivial⟩
              case measure => simp [intOf]; omega
          | false =>
            have FR : Hid (FF nx L p) := by rw [HP.out]; exact pos_some n0 n1 hlt HT.out (by rw [← HP.out]; exact HTK.out.symm)
            obtain ⟨w4, hw4⟩ : ∃ w4, w4 = w3.setCell ⟨q, 1, none⟩ (.int .i64 (p + 1)) := ⟨_, rfl⟩
            have P4 : DPo w4 q O L (p + 1) ∧ But (Only q) w3 w4 := by rw [hw4]; exact P3.out.next (p + 1)
            have f3 := P3.out.fz 1
            have c4 := P4.1.c1
            have f4 := P4.1.fz 1
            have H4 := hide P4.1
            have B4 : Hid (But (fun g => g = q ∨ O g) w w4) := B3.out.trans (P4.2.mono (fun g e => .inl e))
            have z : (p == 0) = false := by simp; omega
            have pn0 : ¬ p = 0 := by omega
            have hw4' := hw4.symm
            clear hw4 P4 WHO
            go_upto_if 66 with fail
            clear hw4' c3 f3
            obtain ⟨np, hnp⟩ : ∃ np, np = nxt p := ⟨_, rfl⟩
            go_cut [] (fun wc => Hid (DPo wc q O L np) ∧ Hid (But (fun g => g = q ∨ O g) w wc))
            case first =>
              by_cases e5 : p = 65535
              · obtain ⟨w5, hw5⟩ : ∃ w5, w5 = w4.setCell ⟨q, 1, none⟩ (.int .i64 49152) := ⟨_, rfl⟩
                have P5 : Hid (DPo w5 q O L np ∧ But (Only q) w4 w5) := by
                  have e : np = 49152 := by rw [hnp]; unfold nxt; rw [if_pos e5]
                  rw [hw5, e]; exact H4.out.next 49152
                have hw5' := hw5.symm
                clear hw5 hnp
                subst e5
                go_wp2
                go_meet
                case rel => exact ⟨P5.out.1, B4.out.trans (P5.out.2.mono (fun g e => .inl e))⟩
              · have P5 : Hid (DPo w4 q O L np) := by
                  have e : np = p + 1 := by rw [hnp]; unfold nxt; rw [if_neg e5]
                  rw [e]; exact H4.out
                have p2 : ¬ (65535 : Int) < p + 1 := by omega
                clear hnp
                go_wp2
                go_meet
                case rel => exact ⟨P5.out, B4.out⟩
            case rest =>
              obtain ⟨P6, B6⟩ := hcut
              obtain ⟨w6, hw6⟩ : ∃ w6, w6 = wc := ⟨_, rfl⟩
              rw [← hw6] at P6 B6 ⊢
              clear hw6 c4 f4 H4 B4
              obtain ⟨va, vc, a', c', w7, w9, e1, e2, e3, e4, e5, e6, e7⟩ := APP.out w6 p np P6.out B6.out
              obtain ⟨m, hm⟩ : ∃ m, m = L.length := ⟨_, rfl⟩
              rw [← hm] at e1 e2 e3 e5
              have RUN := hide e2
              have P9 := hide e6
              have B9 := hide e7
              have BD : Hid (Bnd nx L ck who 0 p 0 (L ++ [⟨p, who, ck⟩]) (ck + 1) np) := .inr (.inr (.inl ⟨rfl, by omega, pn0, FR.out, rfl, rfl, rfl, hnp⟩))
              clear e2 e6 e7 hm hnp
              go_upto_region 25 with (at_builtin; refine wpList_appP rfl _ _ rfl rfl _ _ rfl rfl RUN.out ?_)
              clear e1 e3 e4 e5
              go_wp2
              refine bodyPost_ret (v := .tuple #[.int .i64 p, .int .i64 0]) (by simp [results, go_sem]) rfl ?_
              exact ⟨p, 0, _, _, np, np, rfl, BD.out, .inl rfl, P9.out, B9.out⟩
        · have ek : k = 16384 := by omega
          have FR : Hid (FF nx L 0) := pos_none (fun j hj => HT.out j (by omega))
          have BD : Hid (Bnd nx L ck who 0 0 130 L ck nx) := .inr (.inl ⟨rfl, by omega, rfl, FR.out, rfl, rfl, rfl, rfl⟩)
          obtain ⟨p, hp⟩ : ∃ p, p = pos nx k := ⟨_, rfl⟩
          rw [← hp]
          subst ek
          clear hp
          go_wp2
          refine bodyPost_ret (v := .tuple #[.int .i64 0, .int .i64 130]) (by simp [results, go_sem]) rfl ?_
          exact ⟨0, 130, L, ck, nx, nx, rfl, BD.out, .inl rfl, KEEP.out _ _ _ P3.out, B3.out⟩
    · have z : (port == 0) = false := by simpa using ep
      have PT : Hid (prt port = true) := by unfold Hid prt; simp; omega
      have W1 := hide (rWho_any P3.out (by have := HL.out; omega) port)
      obtain ⟨ow, how⟩ : ∃ ow, ow = owh port L := ⟨_, rfl⟩
      obtain ⟨tk, htk⟩ : ∃ tk, tk = otk port L := ⟨_, rfl⟩
      rw [← how, ← htk] at W1
      have HTK := hide htk
      clear htk how
      go_wp2_with fail
      refine W1.out.mono ?_
      rintro _ wx ⟨rfl, hw⟩
      rw [hw]
      clear hw wx W1
      cases tk with
      | true =>
        have BD : Hid (Bnd nx L ck who port 0 130 L ck nx) := .inr (.inr (.inr (.inl ⟨ep, PT.out, by omega, HTK.out.symm, rfl, rfl, rfl, rfl, rfl⟩)))
        go_wp2
        refine bodyPost_ret (v := .tuple #[.int .i64 0, .int .i64 130]) (by simp [results, go_sem]) rfl ?_
        exact ⟨0, 130, L, ck, nx, nx, rfl, BD.out, .inl rfl, KEEP.out _ _ _ P3.out, B3.out⟩
      | false =>
        obtain ⟨va, vc, a', c', w7, w9, e1, e2, e3, e4, e5, e6, e7⟩ := APP.out w3 port nx P3.out B3.out
        obtain ⟨m, hm⟩ : ∃ m, m = L.length := ⟨_, rfl⟩
        rw [← hm] at e1 e2 e3 e5
        have RUN := hide e2
        have P9 := hide e6
        have B9 := hide e7
        have BD : Hid (Bnd nx L ck who port port 0 (L ++ [⟨port, who, ck⟩]) (ck + 1) nx) := .inr (.inr (.inr (.inr ⟨ep, PT.out, by omega, HTK.out.symm, rfl, rfl, rfl, rfl, rfl⟩)))
        clear e2 e6 e7 hm
        go_upto_region 25 with (at_builtin; refine wpList_appP rfl _ _ rfl rfl _ _ rfl rfl RUN.out ?_)
        clear e1 e3 e4 e5
        go_wp2
        refine bodyPost_ret (v := .tuple #[.int .i64 port, .int .i64 0]) (by simp [results, go_sem]) rfl ?_
        exact ⟨port, 0, _, _, nx, nx, rfl, BD.out, .inl rfl, P9.out, B9.out⟩
end Go.Proofs.Ythjeaebpboilpaa
