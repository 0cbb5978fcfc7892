
/-
  What was encoded is decoded as it was; are two messages the same?
-/
import Derived.Test.YtlhkdjockodneaaT17
namespace Go.Proofs.Ytlhkdjockodneaa
open Go.RowKit Go.Shelf

theorem Gro.away {B : Nat} {K : Nat → Prop} {A W : World} {v : Value} {bs : List Int} (h : Gro B A v bs) (hb : But K A W) (hk : ∀ g x y, v = .slice (some ⟨g, 0, none⟩) x y → ¬ K g) : Gro B W v bs := by
  obtain ⟨h1, h2 | ⟨g, cap, cur, rfl, hg, hh, r⟩⟩ := h
  · exact ⟨h1, .inl h2⟩
  · exact ⟨h1, .inr ⟨g, cap, cur, rfl, hg, by rw [hb.block g (Array.getElem?_eq_some_iff.1 hh).1 (hk g _ _ rfl)]; exact hh, r⟩⟩
theorem Gro.lies {B : Nat} {W : World} {v : Value} {bs : List Int} (h : Gro B W v bs) : ∀ g x y, v = .slice (some ⟨g, 0, none⟩) x y → B ≤ g ∧ g < W.heap.size := by
  intro g x y e
  obtain ⟨h1, ⟨rfl, _⟩ | ⟨g', cap, cur, rfl, hg, hh, r⟩⟩ := h
  · cases e
  · cases e
    exact ⟨hg, (Array.getElem?_eq_some_iff.1 hh).1⟩
theorem icB_cons (t c i s u : Int) (ds : List Int) : ∃ a b, icB t c i s u ds = t :: c :: a :: b :: (i / 256 % 256) :: (i % 256) :: ((if ech t = true then s else u) / 256 % 256) :: ((if ech t = true then s else u) % 256) :: ds := ⟨_, _, rfl⟩
theorem dec_enc {t c i s u : Int} {ds : List Int} (h : mbI t c i s u = true) (hd : Bytes ds) (hl : ds.length ≤ 1016) : idE (icB t c i s u ds) = 0 ∧ idM (icB t c i s u ds) = ⟨t, c, i, s, u, ds⟩ := by
  obtain ⟨k1, k2, k3, k4, k5, k6, k7⟩ := mbI_true h
  have hs := icB_sum h hd
  have len := icB_len t c i s u ds
  obtain ⟨a, b, e⟩ := icB_cons t c i s u ds
  obtain ⟨x, hx⟩ : ∃ x, x = (if ech t = true then s else u) := ⟨_, rfl⟩
  rw [← hx] at e
  have xb : 0 ≤ x ∧ x ≤ 65535 := by rw [hx]; split; exact k4; exact k5
  have n0 : nb (icB t c i s u ds) 0 = t := by rw [e]; rfl
  have n1 : nb (icB t c i s u ds) 1 = c := by rw [e]; rfl
  have n4 : w16 (icB t c i s u ds) 4 = i := by rw [e]; show 256 * (i / 256 % 256) + i % 256 = i; omega
  have n6 : w16 (icB t c i s u ds) 6 = x := by rw [e]; show 256 * (x / 256 % 256) + x % 256 = x; omega
  have n8 : (icB t c i s u ds).drop 8 = ds := by rw [e]; rfl
  have hS : rdS (icB t c i s u ds) = s := by
    unfold rdS
    rw [n0, n6, hx]
    cases he : ech t with
    | true => simp
    | false => simp; exact (k7 he).2.symm
  have hU : rdU (icB t c i s u ds) = u := by
    unfold rdU
    rw [n0, n6, hx]
    cases he : ech t with
    | true => simp; exact (k6 he).symm
    | false => simp
  have hr : rdM (icB t c i s u ds) = ⟨t, c, i, s, u, ds⟩ := by unfold rdM; rw [n0, n1, n4, hS, hU, n8]
  have e0 : idE (icB t c i s u ds) = 0 := by
    unfold idE
    rw [if_neg (by omega), if_neg (by omega), if_neg (by rw [hs]; simp), hr, if_neg (by unfold Ms.may; rw [h]; decide)]
  refine ⟨e0, ?_⟩
  unfold idM
  rw [if_pos e0, hr]
set_option maxRecDepth 100000 in
set_option maxHeartbeats 4000000 in
theorem icSame_any (t c i s u : Int) (da : Option Addr) (dn dc : Nat) (ds : List Int) (t' c' i' s' u' : Int) (da' : Option Addr) (dn' dc' : Nat) (ds' : List Int) (w : World) (hd : IsB w.heap.size w (.slice da dn dc) ds) (hd' : IsB w.heap.size w (.slice da' dn' dc') ds') :
    Calls Try.prog 14 #[.agg (imL t c i s u (.slice da dn dc)).toArray, .agg (imL t' c' i' s' u' (.slice da' dn' dc')).toArray] w fun e w' => ∃ r, e = .returned (.bool r) ∧ (t = t' → c = c' → i = i' → s = s' → u = u' → ds = ds' → r = true) ∧ Below w.heap.size w w' := by
  obtain ⟨q, w1, hq, hw1, b1, l1, hc, _⟩ := boxI w t c i s u (.slice da dn dc)
  obtain ⟨q2, w2, hq2, hw2, b2, l2, hc2, _⟩ := boxI w1 t' c' i' s' u' (.slice da' dn' dc')
  obtain ⟨x0, x1, x2, x3, x4, x5⟩ := imL_cells (hc.later l1 b2)
  obtain ⟨y0, y1, y2, y3, y4, y5⟩ := imL_cells hc2
  have B2 := hide (later b1 b2)
  have sc := conv_str (hd.later (later b1 b2))
  have sc' := conv_str (hd'.later (later b1 b2))
  simp only [imL]
  clear hc hc2 b1 b2 hd hd'
  go_enter Try.func14, Try.ntmps14
  go_upto_region 1 with fail
  clear hq hw1 hq2 hw2
  cases z0 : (t == t') with
  | true =>
    cases z1 : (c == c') with
    | true =>
      cases z2 : (i == i') with
      | true =>
        cases z3 : (s == s') with
        | true =>
          cases z4 : (u == u') with
          | true =>
            go_wp2
            go_ret
            refine ⟨_, rfl, fun _ _ _ _ _ e => ?_, B2.out⟩
            subst e
            simp
          | false =>
            go_wp2
            go_ret
            exact ⟨false, rfl, fun _ _ _ _ e _ => by rw [e] at z4; simp at z4, B2.out⟩
        | false =>
          go_wp2
          go_ret
          exact ⟨false, rfl, fun _ _ _ e _ _ => by rw [e] at z3; simp at z3, B2.out⟩
      | false =>
        go_wp2
        go_ret
        exact ⟨false, rfl, fun _ _ e _ _ _ => by rw [e] at z2; simp at z2, B2.out⟩
    | false =>
      go_wp2
      go_ret
      exact ⟨false, rfl, fun _ e _ _ _ _ => by rw [e] at z1; simp at z1, B2.out⟩
  | false =>
    go_wp2
    go_ret
    exact ⟨false, rfl, fun e _ _ _ _ _ => by rw [e] at z0; simp at z0, B2.out⟩
end Go.Proofs.Ytlhkdjockodneaa
