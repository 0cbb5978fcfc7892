
/-
  Package wire: Damage.
-/
import Derived.Test.YtghojbgjmpjhgaaW7
namespace Go.Proofs.Ytghojbgjmpjhgaa
open Go.RowKit

/-- a bit turned -/
def flipB (x : Int) (m : Nat) : Int := bits .xor .u8 x (2 ^ m % 256)
def flip (bs : List Int) (t : Nat) : List Int := bs.set (t / 8) (flipB (bs[t / 8]?.getD 0) (t % 8))
theorem flip_len (bs : List Int) (t : Nat) : (flip bs t).length = bs.length := by simp [flip]

theorem flat_same (l : List (Value × Frm)) (k : Nat) (p : Value × Frm) (h : l[k]? = some p) (f : Frm) (hb : f.bad = p.2.bad) (hf : f.tick = p.2.tick) : flat (l.set k (p.1, f)) = flat l := by
  induction l generalizing k with
  | nil => simp at h
  | cons q l ih =>
    cases k with
    | zero =>
      simp only [List.getElem?_cons_zero, Option.some.injEq] at h
      subst h
      simp [flat_cons, hf, hb]
    | succ k =>
      simp only [List.getElem?_cons_succ] at h
      rw [List.set_cons_succ, flat_cons, flat_cons, ih k h]
theorem set_fst (l : List (Value × Frm)) (k : Nat) (p : Value × Frm) (h : l[k]? = some p) (f : Frm) : (l.set k (p.1, f)).map Prod.fst = l.map Prod.fst := by
  rw [List.map_set]
  apply List.ext_getElem?
  intro j
  rw [List.getElem?_set]
  split
  · rename_i e; subst e
    rw [List.getElem?_map, h]
    simp [(List.getElem?_eq_some_iff.1 h).1]
  · rfl
theorem pw_set {l : List (Value × Frm)} {k : Nat} {p : Value × Frm} (h : l[k]? = some p) (f : Frm) (hp : l.Pairwise (fun p q => ∀ k, p.1.ownBlock = some k → q.1.ownBlock ≠ some k)) : (l.set k (p.1, f)).Pairwise (fun p q => ∀ k, p.1.ownBlock = some k → q.1.ownBlock ≠ some k) := by
  have h1 : (l.map Prod.fst).Pairwise (fun p q => ∀ k, p.ownBlock = some k → q.ownBlock ≠ some k) := List.pairwise_map.2 hp
  rw [← set_fst l k p h f] at h1
  exact List.pairwise_map.1 h1
/-- the frames of a list that are not at a place have other blocks -/
theorem pw_ne {l : List (Value × Frm)} {k : Nat} {p : Value × Frm} (h : l[k]? = some p) (hp : l.Pairwise (fun p q => ∀ k, p.1.ownBlock = some k → q.1.ownBlock ≠ some k)) {j : Nat} {q : Value × Frm} (hq : l[j]? = some q) (hne : j ≠ k) : ∀ g, q.1.ownBlock = some g → p.1.ownBlock ≠ some g := by
  obtain ⟨hk, e1⟩ := List.getElem?_eq_some_iff.1 h
  obtain ⟨hj, e2⟩ := List.getElem?_eq_some_iff.1 hq
  have h2 := List.pairwise_iff_getElem.1 hp
  intro g eg
  rcases Nat.lt_or_ge j k with hlt | hge
  · have := h2 j k hj hk hlt g (by rw [e2]; exact eg)
    rw [e1] at this; exact this
  · intro e3
    have := h2 k j hk hj (by omega) g (by rw [e1]; exact e3)
    rw [e2] at this
    exact this eg
theorem mem_set {l : List (Value × Frm)} {k : Nat} {x q : Value × Frm} (h : q ∈ l.set k x) : q = x ∨ ∃ j, j ≠ k ∧ l[j]? = some q := by
  obtain ⟨j, hj⟩ := List.getElem?_of_mem h
  rw [List.getElem?_set] at hj
  by_cases e : k = j
  · rw [if_pos e] at hj
    split at hj
    · left; simpa using hj.symm
    · simp at hj
  · rw [if_neg e] at hj
    exact .inr ⟨j, fun c => e c.symm, hj⟩

section
variable {ρ : Nat → Nat} {w w' : World} {b : Nat} {dv : Nat → Nat} {ck : Int} {L : Nat → List (Value × Frm)} {D : Nat → Dev}

theorem Net.inplace (h : Net ρ w b dv ck L D) (i : Nat) (hi : i < 2) {l : List (Value × Frm)} (hb : But (fun g => ρ g = 5 + i ∨ ρ g = 7 + i) w w') (hL : ∀ v, Lst ρ w i v (L i) → Lst ρ w' i v l) (hf : ∀ p ∈ l, p.2.bs.length ≤ 274) :
    Net ρ w' b dv ck (upd L i l) D := by
  have nb : ¬ (fun g => ρ g = 5 + i ∨ ρ g = 7 + i) b := fun e => by have := h.rb; rcases e with e | e <;> omega
  have cb : ∀ j, w'.cell? ⟨b, j, none⟩ = w.cell? ⟨b, j, none⟩ := fun j => hb.cell (p := ⟨b, j, none⟩) h.blt nb
  refine ⟨fun g e => Nat.lt_of_lt_of_le (h.lt g e) hb.size, h.rb, h.rd, (cb 0).trans h.clock, fun j hj => (cb _).trans (h.ends j hj), fun j => (hb.frozen (p := ⟨b, j, none⟩) h.blt nb).trans (h.fz j), fun j hj => ?_, fun j hj => ?_, h.ok, fun j hj => ?_⟩
  · obtain ⟨u, hu, hL2⟩ := h.ls j hj
    by_cases e : j = i
    · subst e
      rw [upd_same]
      exact ⟨u, (cb _).trans hu, hL u hL2⟩
    · rw [upd_other _ _ _ _ e]
      exact ⟨u, (cb _).trans hu, hL2.but hb (fun g e => by omega) (fun _ _ => rfl)⟩
  · exact (h.dev j hj).ext hb (fun g e => by omega) (fun e => by have := h.rd j hj; rcases e with e | e <;> omega) (fun _ _ => rfl)
  · by_cases e : j = i
    · subst e; rw [upd_same]; exact hf
    · rw [upd_other _ _ _ _ e]; exact h.fl j hj

theorem Net.setByte (h : Net ρ w b dv ck L D) (i j : Nat) (hi : i < 2) {gf cf : Nat} {f : Frm} (hp : (L i)[j]? = some (.slice (some ⟨gf, 0, none⟩) f.bs.length cf, f)) (q : Nat) (y : Int) :
    Net ρ (w.setCell ⟨gf, q, none⟩ (.int .u8 y)) b dv ck (upd L i ((L i).set j (.slice (some ⟨gf, 0, none⟩) f.bs.length cf, { f with bs := f.bs.set q y }))) D := by
  obtain ⟨v0, _, hL0⟩ := h.ls i hi
  have hr := (hL0.fr _ (List.mem_of_getElem? hp)).2 gf rfl
  have hb : But (Only gf) w (w.setCell ⟨gf, q, none⟩ (.int .u8 y)) := (But.refl (Only gf) w).setCell (p := ⟨gf, q, none⟩) (.inr rfl) _
  refine h.inplace i hi (hb.mono (fun x e => by have e : x = gf := e; rw [e]; exact .inr hr)) (fun v hL => ⟨?_, hL.role, fun p hpm => ?_, pw_set hp _ hL.pw⟩) (fun p hpm => ?_)
  · unfold Row3
    rw [flat_same _ _ _ hp { f with bs := f.bs.set q y } rfl rfl, List.length_set]
    exact row_keep hL.row hb (fun k e c => by have c : k = gf := c; have := hL.role k e; rw [c] at this; omega)
  · rcases mem_set hpm with rfl | ⟨j', hne, hq⟩
    · refine ⟨?_, fun k e => by have e : some gf = some k := e; cases e; exact hr⟩
      have h0 := (hL.fr _ (List.mem_of_getElem? hp)).1
      unfold Gro at h0 ⊢
      simp only [List.length_set, List.map_set]
      exact (World.ownsRow.stored h0 q _).1
    · obtain ⟨h1, h2⟩ := hL.fr _ (List.mem_of_getElem? hq)
      exact ⟨h1.keep hb (fun k e c => by have c : k = gf := c; rw [c] at e; exact pw_ne hp hL.pw hq hne gf e rfl), h2⟩
  · rcases mem_set hpm with rfl | ⟨j', hne, hq⟩
    · simpa using h.fl i hi _ (List.mem_of_getElem? hp)
    · exact h.fl i hi _ (List.mem_of_getElem? hq)
theorem Net.setBad (h : Net ρ w b dv ck L D) (i j : Nat) (hi : i < 2) {p : Value × Frm} (hp : (L i)[j]? = some p) {g n c : Nat} (hv : w.cell? ⟨b, 3 + i, none⟩ = some (.slice (some ⟨g, 0, none⟩) n c)) (x : Bool) :
    Net ρ (w.setCell ⟨g, j * 3 + 1, none⟩ (.bool x)) b dv ck (upd L i ((L i).set j (p.1, { p.2 with bad := x }))) D := by
  obtain ⟨v0, hv0, hL0⟩ := h.ls i hi
  rw [hv] at hv0
  cases hv0
  have hr := hL0.role g rfl
  have hb : But (Only g) w (w.setCell ⟨g, j * 3 + 1, none⟩ (.bool x)) := (But.refl (Only g) w).setCell (p := ⟨g, j * 3 + 1, none⟩) (.inr rfl) _
  have h1 : Net ρ (w.setCell ⟨g, j * 3 + 1, none⟩ (.bool x)) b dv ck (upd L i ((L i).set j (p.1, { p.2 with bad := x }))) D := by
    have nb : ¬ Only g b := fun e => by have e : b = g := e; have := h.rb; rw [e] at this; omega
    have cb : ∀ k, (w.setCell ⟨g, j * 3 + 1, none⟩ (.bool x)).cell? ⟨b, k, none⟩ = w.cell? ⟨b, k, none⟩ := fun k => hb.cell (p := ⟨b, k, none⟩) h.blt nb
    refine ⟨fun g e => Nat.lt_of_lt_of_le (h.lt g e) hb.size, h.rb, h.rd, (cb 0).trans h.clock, fun k hk => (cb _).trans (h.ends k hk), fun k => (hb.frozen (p := ⟨b, k, none⟩) h.blt nb).trans (h.fz k), fun k hk => ?_, fun k hk => ?_, h.ok, fun k hk => ?_⟩
    · by_cases e : k = i
      · subst e
        rw [upd_same]
        refine ⟨_, (cb _).trans hv, ⟨?_, hL0.role, fun q hq => ?_, pw_set hp _ hL0.pw⟩⟩
        · have hrow := hL0.row
          unfold Row3 at hrow ⊢
          obtain ⟨a', c', e'⟩ := hL0.row.shape
          simp only [Value.slice.injEq] at e'
          obtain ⟨_, rfl, rfl⟩ := e'
          rw [List.length_set, ← flat_bad _ _ _ hp { p.2 with bad := x } rfl]
          exact (World.ownsRow.stored hrow _ _).1
        · have : Gro 0 (w.setCell ⟨g, j * 3 + 1, none⟩ (.bool x)) q.1 q.2.bs ∧ ∀ k', q.1.ownBlock = some k' → ρ k' = 7 + k := by
            rcases mem_set hq with rfl | ⟨j', _, hq⟩
            · obtain ⟨h1, h2⟩ := hL0.fr _ (List.mem_of_getElem? hp)
              exact ⟨h1.keep hb (fun k' e c => by have c : k' = g := c; have := h2 k' e; rw [c] at this; omega), h2⟩
            · obtain ⟨h1, h2⟩ := hL0.fr _ (List.mem_of_getElem? hq)
              exact ⟨h1.keep hb (fun k' e c => by have c : k' = g := c; have := h2 k' e; rw [c] at this; omega), h2⟩
          exact this
      · rw [upd_other _ _ _ _ e]
        obtain ⟨u, hu, hL2⟩ := h.ls k hk
        exact ⟨u, (cb _).trans hu, hL2.but hb (fun x e => by have e : x = g := e; rw [e]; omega) (fun _ _ => rfl)⟩
    · exact (h.dev k hk).ext hb (fun x e => by have e : x = g := e; rw [e]; omega) (fun e => by have e : dv k = g := e; have := h.rd k hk; rw [e] at this; omega) (fun _ _ => rfl)
    · by_cases e : k = i
      · subst e; rw [upd_same]
        intro q hq
        rcases mem_set hq with rfl | ⟨j', _, hq⟩
        · exact h.fl k hi p (List.mem_of_getElem? hp)
        · exact h.fl k hi _ (List.mem_of_getElem? hq)
      · rw [upd_other _ _ _ _ e]; exact h.fl k hk
  exact h1

def dmE (l : Nat → List Frm) (d k bit : Int) : Int := if thE (fun i => (l i).length) d k = 0 then (if 0 ≤ bit ∧ bit < 8 * ((((l d.toNat)[k.toNat]?).getD ⟨[], false, 0⟩).bs.length : Int) then 0 else 1) else thE (fun i => (l i).length) d k
def dmA (l : Nat → List Frm) (d k bit : Int) : Nat → List Frm :=
  if dmE l d k bit = 0 then upd l d.toNat ((l d.toNat).set k.toNat ⟨flip (((l d.toNat)[k.toNat]?).getD ⟨[], false, 0⟩).bs bit.toNat, true, (((l d.toNat)[k.toNat]?).getD ⟨[], false, 0⟩).tick⟩) else l

set_option maxRecDepth 100000 in
set_option maxHeartbeats 4000000 in
theorem Damage_yes (h : Net ρ w b dv ck L D) (i j t : Nat) (hi : i < 2) (gf cf : Nat) (f : Frm) (hp : (L i)[j]? = some (.slice (some ⟨gf, 0, none⟩) f.bs.length cf, f)) (ht : t < 8 * f.bs.length) :
    Calls Try.prog 24 #[.pointer (some ⟨b, 0, none⟩), .int .i64 (i : Int), .int .i64 (j : Int), .int .i64 (t : Int)] w fun e w' => e = .returned (.int .i64 0) ∧ Did ρ w w' b dv ck (upd L i ((L i).set j (.slice (some ⟨gf, 0, none⟩) f.bs.length cf, ⟨flip f.bs t, true, f.tick⟩))) D := by
  have R := hide (stands_any h (i : Int) (j : Int))
  rw [thE_yes hi (by have := (List.getElem?_eq_some_iff.1 hp).1; unfold lens; omega)] at R
  obtain ⟨v, hv, hL⟩ := h.ls i hi
  have hf := (hL.fr _ (List.mem_of_getElem? hp)).1
  have hfr := (hL.fr _ (List.mem_of_getElem? hp)).2 gf rfl
  have hlen := h.fl i hi _ (List.mem_of_getElem? hp)
  obtain ⟨g, cl, rfl, hgr, hg, c0, c1, c2, fz⟩ := hL.at hp
  simp only at c0 c1 c2 hf hlen
  have hq : t / 8 < f.bs.length := by omega
  have cb : w.cell? ⟨gf, t / 8, none⟩ = some (.int .u8 (f.bs[t / 8]?.getD 0)) := by
    rw [World.ownsRow.cellAt hf _ (by omega)]
    simp [hq]
  have fb := World.ownsRow.frozenAt hf (t / 8)
  have n1 := (h.setByte i j hi hp (t / 8) (flipB (f.bs[t / 8]?.getD 0) (t % 8))).drew
  have hjl := (List.getElem?_eq_some_iff.1 hp).1
  have hne : gf ≠ g := fun e => by rw [e] at hfr; omega
  have nbg : gf ≠ b := fun e => by have := h.rb; rw [e] at hfr; omega
  have n2 := n1.setBad i j hi (p := (.slice (some ⟨gf, 0, none⟩) f.bs.length cf, { f with bs := f.bs.set (t / 8) (flipB (f.bs[t / 8]?.getD 0) (t % 8)) })) (by rw [upd_same, List.getElem?_set]; simp [hjl]) (g := g) (n := (L i).length) (c := cl) (by
    show (w.setCell ⟨gf, t / 8, none⟩ _).cell? _ = _
    rw [World.cell?_setCell_other _ _ _ _ (by intro q; have q := congrArg Addr.block q; exact nbg q)]; exact hv) true
  have HN : Hid (Did ρ w _ b dv ck (upd L i ((L i).set j (.slice (some ⟨gf, 0, none⟩) f.bs.length cf, ⟨flip f.bs t, true, f.tick⟩))) D) := ⟨ρ, by
    have e : upd (upd L i ((L i).set j (.slice (some ⟨gf, 0, none⟩) f.bs.length cf, { f with bs := f.bs.set (t / 8) (flipB (f.bs[t / 8]?.getD 0) (t % 8)) }))) i ((upd L i ((L i).set j (.slice (some ⟨gf, 0, none⟩) f.bs.length cf, { f with bs := f.bs.set (t / 8) (flipB (f.bs[t / 8]?.getD 0) (t % 8)) })) i).set j (.slice (some ⟨gf, 0, none⟩) f.bs.length cf, ⟨f.bs.set (t / 8) (flipB (f.bs[t / 8]?.getD 0) (t % 8)), true, f.tick⟩)) = upd L i ((L i).set j (.slice (some ⟨gf, 0, none⟩) f.bs.length cf, ⟨flip f.bs t, true, f.tick⟩)) := by
      rw [upd_same, List.set_set]
      funext k; unfold upd flip; split <;> rfl
    rw [← e]; exact n2, fun _ _ => rfl, (((But.refl _ w).setCell (p := ⟨gf, t / 8, none⟩) (.inr (by simp only; omega)) _).drew).setCell (p := ⟨g, j * 3 + 1, none⟩) (.inr (by simp only; omega)) _⟩
  unfold flipB at HN
  generalize hxx : f.bs[t / 8]?.getD 0 = x at *
  have fz1 := fz (j * 3 + 1)
  have hj : (j : Int) < (L i).length := by omega
  have hi2 : (i : Int) < 2 := by omega
  have ht1 : (t : Int) < 8 * (f.bs.length : Int) := by omega
  have ht2 : ¬ 8 * (f.bs.length : Int) ≤ (t : Int) := by omega
  have hz1 : (8 : Int) * (f.bs.length : Int) ≤ 2192 := by omega
  clear h hL hf hp n1 n2 hxx hjl nbg
  go_enter Try.func24, Try.ntmps24
  go_wp2_with fail
  refine R.out.mono ?_
  rintro e w' ⟨rfl, rfl⟩
  clear R
  go_wp2
  go_region
  go_wp2
  go_ret
  exact ⟨rfl, HN.out⟩

theorem ab_get {L : Nat → List (Value × Frm)} {i j : Nat} {p : Value × Frm} (h : (L i)[j]? = some p) : (ab L i)[j]?.getD ⟨[], false, 0⟩ = p.2 := by unfold ab; rw [List.getElem?_map, h]; rfl

theorem Damage_any (h : Net ρ w b dv ck L D) (d k bit : Int) : Calls Try.prog 24 #[.pointer (some ⟨b, 0, none⟩), .int .i64 d, .int .i64 k, .int .i64 bit] w fun e w' => e = .returned (.int .i64 (dmE (ab L) d k bit)) ∧ ∃ L', Did ρ w w' b dv ck L' D ∧ ab L' = dmA (ab L) d k bit := by
  have R := hide (stands_any h d k)
  unfold dmA dmE
  rw [lens_ab]
  by_cases e0 : thE (lens L) d k = 0
  · obtain ⟨i, j, p, rfl, rfl, hi, hp⟩ := thE_get e0
    rw [if_pos e0, Int.toNat_natCast, Int.toNat_natCast, ab_get hp]
    by_cases hb : 0 ≤ bit ∧ bit < 8 * (p.2.bs.length : Int)
    · rw [if_pos hb, if_pos rfl]
      obtain ⟨t, rfl⟩ : ∃ t : Nat, bit = (t : Int) := ⟨bit.toNat, by omega⟩
      obtain ⟨v, hv, hL⟩ := h.ls i hi
      obtain ⟨_, ⟨e1, e2⟩ | ⟨gf, cf, cur, e1, _⟩⟩ := (hL.fr p (List.mem_of_getElem? hp)).1
      · omega
      · have hp' : (L i)[j]? = some (.slice (some ⟨gf, 0, none⟩) p.2.bs.length cf, p.2) := by rw [hp, ← e1]
        refine (Damage_yes h i j t hi gf cf p.2 hp' (by omega)).mono ?_
        rintro e w' ⟨rfl, hd⟩
        refine ⟨rfl, _, hd, ?_⟩
        rw [ab_upd, List.map_set, Int.toNat_natCast]; rfl
    · rw [if_neg hb, if_neg (by omega)]
      rw [e0] at R
      obtain ⟨v, hv, hL⟩ := h.ls i hi
      obtain ⟨a, c, ep⟩ := h.shape hi hp
      have hlen := h.fl i hi p (List.mem_of_getElem? hp)
      obtain ⟨g, cl, rfl, _, _, c0, _, _, _⟩ := hL.at hp
      rw [ep] at c0
      simp only at c0
      have hj : (j : Int) < (L i).length := by have := (List.getElem?_eq_some_iff.1 hp).1; omega
      have hi2 : (i : Int) < 2 := by omega
      have hz1 : (8 : Int) * (p.2.bs.length : Int) ≤ 2192 := by omega
      have H := hide h
      by_cases hb0 : bit < 0
      · clear hb h hL ep hp e0
        go_enter Try.func24, Try.ntmps24
        go_wp2_with fail
        refine R.out.mono ?_
        rintro e w' ⟨rfl, rfl⟩
        go_wp2
        go_ret
        exact ⟨rfl, L, H.out.did, rfl⟩
      · have hb1 : 8 * (p.2.bs.length : Int) ≤ bit := by omega
        clear hb h hL ep hp e0
        go_enter Try.func24, Try.ntmps24
        go_wp2_with fail
        refine R.out.mono ?_
        rintro e w' ⟨rfl, rfl⟩
        go_wp2
        go_ret
        exact ⟨rfl, L, H.out.did, rfl⟩
  · rw [if_neg e0, if_neg e0]
    obtain ⟨er, her⟩ : ∃ er, er = thE (lens L) d k := ⟨_, rfl⟩
    rw [← her] at R e0 ⊢
    have q : (er != 0) = true := by simp [e0]
    have H := hide h
    clear her h
    go_enter Try.func24, Try.ntmps24
    go_wp2_with fail
    refine R.out.mono ?_
    rintro e w' ⟨rfl, rfl⟩
    go_wp2
    go_ret
    exact ⟨rfl, L, H.out.did, rfl⟩
end
end Go.Proofs.Ytghojbgjmpjhgaa
