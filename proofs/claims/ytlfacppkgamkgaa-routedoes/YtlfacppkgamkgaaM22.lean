
/-
  RouteLongest, in numbers: an address' beginnings as ways.
-/
import Derived.Test.YtlfacppkgamkgaaMOp
namespace Go.Proofs.Ytlfacppkgamkgaa
open Go.RowKit Go.Shelf

/-- an octet, its bits p to q - 1 cleared -/
def cb (x : Int) (p q : Nat) : Int := x / 2 ^ (8 - p) * 2 ^ (8 - p) + x % 2 ^ (8 - q)
theorem cb_fin : ∀ (a : Fin 256) (p : Fin 9) (q : Fin 8), p.val ≤ q.val → bits .andNot .u8 (cb (a.val : Int) p.val q.val) (128 / 2 ^ q.val) = cb (a.val : Int) p.val (q.val + 1) := by decide +kernel
theorem cb_step (x : Int) (p q : Nat) (h0 : 0 ≤ x) (h1 : x ≤ 255) (hp : p ≤ q) (hq : q < 8) : bits .andNot .u8 (cb x p q) (128 / 2 ^ q) = cb x p (q + 1) := by
  obtain ⟨n, rfl⟩ := Int.eq_ofNat_of_zero_le h0
  exact cb_fin ⟨n, by omega⟩ ⟨p, by omega⟩ ⟨q, hq⟩ hp
theorem cb_same (x : Int) (p : Nat) : cb x p p = x := by
  unfold cb
  rw [Int.mul_comm]
  exact Int.mul_ediv_add_emod x _
theorem cb_full (x : Int) (p : Nat) : cb x p 8 = mk x (8 - p) := by
  unfold cb mk
  have : x % 2 ^ (8 - 8) = 0 := by simp [Int.emod_one]
  rw [this, Int.add_zero]
/-- how many bits of the octet i are below n -/
def c8 (n i : Nat) : Nat := min (n - 8 * i) 8
def octet (x : I4) : Nat → Int
  | 0 => x.a
  | 1 => x.b
  | 2 => x.c
  | _ => x.d
def no (x : I4) (n K i : Nat) : Int := cb (octet x i) (c8 n i) (c8 K i)
theorem no_same (x : I4) (n i : Nat) : no x n n i = octet x i := cb_same _ _
theorem no_beg (x : I4) (n i : Nat) (hi : i < 4) : no x n 32 i = octet (beg x n) i := by
  unfold no
  have e : c8 32 i = 8 := by unfold c8; omega
  rw [e, cb_full]
  rcases i with _ | _ | _ | _ | i
  · rfl
  · rfl
  · rfl
  · rfl
  · omega
theorem octet_bd {x : I4} (h : x.Ok) (i : Nat) : B8 (octet x i) := by
  obtain ⟨h1, h2, h3, h4⟩ := h
  rcases i with _ | _ | _ | i
  · exact h1
  · exact h2
  · exact h3
  · exact h4
theorem no_step {x : I4} (h : x.Ok) (n K i : Nat) (hn : n ≤ K) (_hK : K < 32) : no x n (K + 1) i = if i = K / 8 then bits .andNot .u8 (no x n K i) (128 / 2 ^ (K % 8)) else no x n K i := by
  unfold no
  by_cases e : i = K / 8
  · rw [if_pos e]
    have e1 : c8 K i = K % 8 := by unfold c8; omega
    have e2 : c8 (K + 1) i = K % 8 + 1 := by unfold c8; omega
    rw [e1, e2]
    have hb := octet_bd h i
    exact (cb_step _ _ _ hb.1 hb.2 (by unfold c8; omega) (by omega)).symm
  · rw [if_neg e]
    have e1 : c8 (K + 1) i = c8 K i := by unfold c8; omega
    rw [e1]
/-- the way of so many bits of an address -/
def wyN (ip : I4) (n : Nat) : Wy := ⟨beg ip n, (n : Int), ⟨10, 0, 0, (n : Int)⟩, true⟩
theorem mk_mk (a : Int) (s : Nat) : mk (mk a s) s = mk a s := by
  unfold mk
  have hp : (2 : Int) ^ s ≠ 0 := Int.ne_of_gt (Int.pow_pos (by decide))
  rw [Int.mul_ediv_cancel _ hp]
theorem wyN_may (ip : I4) (n : Nat) (hn : n ≤ 32) : mayW (wyN ip n) = true := by
  refine decide_eq_true ⟨by show (0 : Int) ≤ (n : Int); omega, by show (n : Int) ≤ 32; omega, ?_, .inl rfl⟩
  show beg (beg ip n) ((n : Int)).toNat = beg ip n
  rw [Int.toNat_natCast]
  unfold beg
  simp only [mk_mk]
theorem wyN_ok {ip : I4} (h : ip.Ok) (n : Nat) (hn : n ≤ 32) : (wyN ip n).Ok := ⟨beg_ok h n, (show B8 10 from ⟨by decide, by decide⟩), (show B8 0 from ⟨by decide, by decide⟩), (show B8 0 from ⟨by decide, by decide⟩), ⟨by show (0 : Int) ≤ (n : Int); omega, by show (n : Int) ≤ 255; omega⟩⟩
theorem ix_out {ip : I4} {n : Nat} : ∀ {ns : List Nat}, n ∉ ns → ix (beg ip n) (n : Int) (ns.map (wyN ip)) = none
  | [], _ => rfl
  | k :: ns, h => by
    simp only [List.mem_cons, not_or] at h
    simp only [List.map_cons, ix]
    rw [if_neg (fun e => h.1 (by have : (k : Int) = (n : Int) := e.2; omega)), ix_out h.2]
    rfl
theorem ix_in {ip : I4} {n : Nat} : ∀ {ns : List Nat}, n ∈ ns → ∃ i, ix (beg ip n) (n : Int) (ns.map (wyN ip)) = some i ∧ ns[i]? = some n
  | [], h => by cases h
  | k :: ns, h => by
    simp only [List.map_cons, ix]
    by_cases e : k = n
    · subst e
      exact ⟨0, by rw [if_pos ⟨rfl, rfl⟩], rfl⟩
    · have hm : n ∈ ns := by rcases List.mem_cons.1 h with rfl | h; exact absurd rfl e; exact h
      obtain ⟨i, h1, h2⟩ := ix_in hm
      exact ⟨i + 1, by rw [if_neg (fun e2 => e (by have : (k : Int) = (n : Int) := e2.2; omega)), h1]; rfl, by simpa using h2⟩
theorem add_in {ip : I4} {n : Nat} {ns : List Nat} (hn : n ≤ 32) (h : n ∈ ns) : adE (ns.map (wyN ip)) (wyN ip n) = 0 ∧ adL (ns.map (wyN ip)) (wyN ip n) = ns.map (wyN ip) := by
  obtain ⟨i, h1, h2⟩ := ix_in (ip := ip) h
  have hm := wyN_may ip n hn
  have e : ix (wyN ip n).net (wyN ip n).bits (ns.map (wyN ip)) = some i := h1
  constructor
  · unfold adE; rw [if_neg (by rw [hm]; decide), if_neg (by rw [e]; simp)]
  · unfold adL; rw [if_neg (by rw [hm]; decide), e]
    show (ns.map (wyN ip)).set i (wyN ip n) = _
    apply List.ext_getElem?
    intro j
    rw [List.getElem?_set]
    by_cases ej : i = j
    · subst ej
      rw [if_pos rfl, if_pos (by rw [List.length_map]; exact (List.getElem?_eq_some_iff.1 h2).1), List.getElem?_map, h2]; rfl
    · rw [if_neg ej]
theorem add_out {ip : I4} {n : Nat} {ns : List Nat} (hn : n ≤ 32) (h : n ∉ ns) : adE (ns.map (wyN ip)) (wyN ip n) = (if ns.length = 8 then 6 else 0) ∧ adL (ns.map (wyN ip)) (wyN ip n) = (if ns.length = 8 then ns else ns ++ [n]).map (wyN ip) := by
  have hm := wyN_may ip n hn
  have e : ix (wyN ip n).net (wyN ip n).bits (ns.map (wyN ip)) = none := ix_out h
  constructor
  · unfold adE; rw [if_neg (by rw [hm]; decide), e]; simp
  · unfold adL; rw [if_neg (by rw [hm]; decide), e]
    simp only [List.length_map]
    by_cases h8 : ns.length = 8
    · rw [if_pos h8, if_pos h8]
    · rw [if_neg h8, if_neg h8, List.map_append]; rfl
theorem gt_out {ip : I4} {k : Nat} {ns : List Nat} (h : k ∉ ns) : gt (beg ip k) (k : Int) (ns.map (wyN ip)) = none := by
  unfold gt
  rw [List.find?_eq_none]
  intro x hx
  obtain ⟨j, hj, rfl⟩ := List.mem_map.1 hx
  simp only [decide_eq_true_eq]
  intro e
  have : (j : Int) = (k : Int) := e.2
  exact h (by rw [← show j = k by omega]; exact hj)
theorem gt_in {ip : I4} {k : Nat} : ∀ {ns : List Nat}, k ∈ ns → gt (beg ip k) (k : Int) (ns.map (wyN ip)) = some (wyN ip k)
  | [], h => by cases h
  | j :: ns, h => by
    unfold gt
    simp only [List.map_cons, List.find?_cons]
    by_cases e : j = k
    · subst e
      rw [decide_eq_true ⟨rfl, rfl⟩]
    · rw [decide_eq_false (fun e2 => e (by have : (j : Int) = (k : Int) := e2.2; omega))]
      exact gt_in (by rcases List.mem_cons.1 h with rfl | h; exact absurd rfl e; exact h)
theorem fdN_top {ip : I4} {ns : List Nat} {n : Nat} (hn : n ∈ ns) : ∀ K, n < K → (∀ k, n < k → k < K → k ∉ ns) → fdN (ns.map (wyN ip)) ip K = some (wyN ip n)
  | 0, h, _ => by omega
  | K + 1, h, hk => by
    unfold fdN
    by_cases e : K = n
    · subst e; rw [gt_in hn]
    · rw [gt_out (hk K (by omega) (by omega))]
      exact fdN_top hn K (by omega) (fun k h1 h2 => hk k h1 (by omega))
theorem find_top {ip : I4} {ns : List Nat} {n : Nat} (hn : n ∈ ns) (h32 : n ≤ 32) (hk : ∀ k ∈ ns, k ≤ n) : fdA (ns.map (wyN ip)) ip = ⟨10, 0, 0, (n : Int)⟩ ∧ fdE (ns.map (wyN ip)) ip = 0 := by
  have h := fdN_top (ip := ip) hn 33 (by omega) (fun k h1 h2 h3 => by have := hk k h3; omega)
  constructor
  · unfold fdA; rw [h]; rfl
  · unfold fdE; rw [if_neg (by rw [h]; simp)]
theorem drop_top {ip : I4} {ns : List Nat} {n : Nat} (hn : n ∈ ns) (hd : ns.Nodup) : drE (ns.map (wyN ip)) (beg ip n) (n : Int) = 0 ∧ ∃ ms : List Nat, drL (ns.map (wyN ip)) (beg ip n) (n : Int) = ms.map (wyN ip) ∧ ms.Nodup ∧ ∀ k, k ∈ ms ↔ k ∈ ns ∧ k ≠ n := by
  obtain ⟨i, h1, h2⟩ := ix_in (ip := ip) hn
  refine ⟨by unfold drE; rw [h1]; simp, ns.eraseIdx i, by unfold drL; rw [h1]; exact (Go.ChangeMaps.map_eraseIdx _ _ _).symm, hd.sublist (List.eraseIdx_sublist _ _), fun k => ?_⟩
  obtain ⟨hi, hin⟩ := List.getElem?_eq_some_iff.1 h2
  rw [List.mem_eraseIdx_iff_getElem]
  constructor
  · rintro ⟨j, hj, hji, rfl⟩
    refine ⟨List.getElem_mem _, fun e => hji ?_⟩
    rw [← hin] at e
    exact (List.getElem_inj hd).1 e
  · rintro ⟨hk, hkn⟩
    obtain ⟨j, hj, rfl⟩ := List.getElem_of_mem hk
    exact ⟨j, hj, fun e => hkn (by subst e; exact hin), rfl⟩
end Go.Proofs.Ytlfacppkgamkgaa
