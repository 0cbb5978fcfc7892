
/-
  ArpOnce, in numbers: Find, Heard, and what is told.
-/
import Derived.Test.YtjaodjlgnclkhaaA47
namespace Go.Proofs.Ytjaodjlgnclkhaa
open Go.RowKit Go.Shelf

section
variable {len : Nat} {now : Int} {n : Nat} {WH WN : Nat → Int} {TD : Nat → Bool} {L : List Nb} {T : List Int}
/-- a packet more waits, for one who is new -/
theorem OnM.add (h : OnM len now n WH WN TD L T) {d : Int} (h0 : 0 ≤ now) (hl : now < len) (hf : fndI (lp d) L = none) {L' : List Nb} (hr : room L = some L') : OnM len now (n + 1) (at1 WH n d) (at1 WN n now) TD (L' ++ [⟨lp d, 1, zM, now, now, 1, [(n : Int)]⟩]) T := by
  obtain ⟨o1, o2, o3⟩ := room_ok h.ok hr
  have back : ∀ z ∈ L' ++ [(⟨lp d, 1, zM, now, now, 1, [(n : Int)]⟩ : Nb)], z = ⟨lp d, 1, zM, now, now, 1, [(n : Int)]⟩ ∨ z ∈ L := fun z hz => by
    rcases List.mem_append.1 hz with hz | hz
    · exact .inr (o3 z hz)
    · exact .inl (List.mem_singleton.1 hz)
  have new : (⟨lp d, 1, zM, now, now, 1, [(n : Int)]⟩ : Nb) ∈ L' ++ [(⟨lp d, 1, zM, now, now, 1, [(n : Int)]⟩ : Nb)] := by simp
  refine ⟨o1.add o2 ⟨h0, Int.le_refl _, h0, Int.le_refl _, .inl rfl, by simp, by simp, by simp, by simp⟩ (fun x hx => fndI_not hf x (o3 x hx)), fun q hq => h.hi q (by omega), fun z hz => ?_, fun z hz => ?_, fun z hz p hp => ?_, h.tn, fun p hp => ?_, fun q hq hT => ?_, fun z hz hs1 => ?_, fun z hz hs1 => ?_⟩
  · rcases back z hz with rfl | hz
    · rfl
    · exact h.ip z hz
  · rcases back z hz with rfl | hz
    · exact List.pairwise_singleton _ _
    · exact h.srt z hz
  · rcases back z hz with rfl | hz
    · obtain rfl : p = (n : Int) := by simpa using hp
      exact ⟨n, rfl, by omega, h.hi n (Nat.le_refl _), at1_same _ _ _, by rw [at1_same]; exact Int.le_refl _⟩
    · obtain ⟨q, e1, e2, e3, e4, e5⟩ := h.pd z hz p hp
      exact ⟨q, e1, by omega, e3, by rw [at1_ne _ _ (by omega)]; exact e4, by rw [at1_ne _ _ (by omega)]; exact e5⟩
  · obtain ⟨q, e1, e2, e3, e4⟩ := h.t p hp
    refine ⟨q, e1, by omega, e3, fun z hz => ?_⟩
    rcases back z hz with rfl | hz
    · intro e
      have e : p = (n : Int) := by simpa using e
      omega
    · exact e4 z hz
  · by_cases e : q = n
    · subst e
      exact .inr ⟨_, new, by simp⟩
    · rcases h.all q (by omega) hT with e | ⟨z, hz, hp⟩
      · exact .inl e
      · rcases room_keeps hr hz with hz' | hs
        · exact .inr ⟨z, List.mem_append_left _ hz', hp⟩
        · exact absurd (h.one hz hp) hs
  · rcases back z hz with rfl | hz
    · refine ⟨by simp, ?_, hl, ?_⟩
      · show now = now + 2 * (1 - 1)
        omega
      · show now - now < 2
        omega
    · exact h.ask z hz hs1
  · rcases back z hz with rfl | hz
    · exact absurd rfl hs1
    · exact h.mac z hz hs1
/-- a packet more waits, for one who is asked for; the first one is let go if there are two -/
theorem OnM.wait (h : OnM len now n WH WN TD L T) {d : Int} {k : Nat} {x : Nb} (hk : L[k]? = some x) (hi : x.ip = lp d) (hs : x.st = 1) : OnM len now (n + 1) (at1 WH n d) (at1 WN n now) TD (L.set k { x with pd := wtP x.pd (n : Int) }) (T ++ wtG x.pd) := by
  have hx := List.mem_of_getElem? hk
  have hX := h.ok.all x hx
  have pl : ∀ p ∈ x.pd, ∃ q : Nat, p = (q : Int) ∧ q < n := fun p hp => let ⟨q, e1, e2, _⟩ := h.pd x hx p hp; ⟨q, e1, e2⟩
  have sub : ∀ p ∈ wtP x.pd (n : Int), p = (n : Int) ∨ p ∈ x.pd := fun p hp => by
    unfold wtP at hp
    split at hp
    · rcases List.mem_append.1 hp with hp | hp
      · exact .inr hp
      · exact .inl (List.mem_singleton.1 hp)
    · rcases List.mem_append.1 hp with hp | hp
      · exact .inr (List.mem_of_mem_drop hp)
      · exact .inl (List.mem_singleton.1 hp)
  have subG : ∀ p ∈ wtG x.pd, p ∈ x.pd := fun p hp => by
    unfold wtG at hp
    split at hp
    · cases hp
    · exact List.mem_of_mem_take hp
  have cov : ∀ p ∈ x.pd, p ∈ wtG x.pd ∨ p ∈ wtP x.pd (n : Int) := fun p hp => by
    unfold wtG wtP
    split
    · exact .inr (List.mem_append_left _ hp)
    · rw [← List.take_append_drop 1 x.pd] at hp
      rcases List.mem_append.1 hp with hp | hp
      · exact .inl hp
      · exact .inr (List.mem_append_left _ hp)
  have sorted := h.srt x hx
  have sp : (wtP x.pd (n : Int)).Pairwise (· < ·) := by
    have : ∀ M : List Int, M.Pairwise (· < ·) → (∀ p ∈ M, p ∈ x.pd) → (M ++ [(n : Int)]).Pairwise (· < ·) := fun M h1 h2 => by
      rw [List.pairwise_append]
      refine ⟨h1, List.pairwise_singleton _ _, fun a ha b hb => ?_⟩
      rw [List.mem_singleton.1 hb]
      obtain ⟨q, e1, e2⟩ := pl a (h2 a ha)
      omega
    unfold wtP
    split
    · exact this _ sorted (fun _ h => h)
    · exact this _ (sorted.sublist (List.drop_sublist 1 _)) (fun _ h => List.mem_of_mem_drop h)
  have gp : ∀ p ∈ wtG x.pd, p ∉ wtP x.pd (n : Int) := fun p hp hq => by
    unfold wtG at hp
    unfold wtP at hq
    split at hp
    · cases hp
    · rename_i h2
      rw [if_neg h2] at hq
      rw [← List.take_append_drop 1 x.pd, List.pairwise_append] at sorted
      rcases List.mem_append.1 hq with hq | hq
      · have := sorted.2.2 p hp p hq
        omega
      · obtain ⟨q, e1, e2⟩ := pl p (List.mem_of_mem_take hp)
        have := List.mem_singleton.1 hq
        omega
  have hok : LOk now (L.set k { x with pd := wtP x.pd (n : Int) }) := by
    refine h.ok.set hk rfl { hX with pd2 := ?_, none := fun e => absurd hs e }
    have := hX.pd2
    show (wtP x.pd (n : Int)).length ≤ 2
    unfold wtP
    split <;> simp <;> omega
  have other : ∀ z ∈ L.set k { x with pd := wtP x.pd (n : Int) }, z = { x with pd := wtP x.pd (n : Int) } ∨ (z ∈ L ∧ z ≠ x) := fun z hz => set_other h.ok.ips hk hz
  refine ⟨hok, fun q hq => h.hi q (by omega), fun z hz => ?_, fun z hz => ?_, fun z hz p hp => ?_, ?_, fun p hp => ?_, fun q hq hT => ?_, fun z hz hs1 => ?_, fun z hz hs1 => ?_⟩
  · rcases other z hz with rfl | ⟨hz, _⟩
    · exact h.ip x hx
    · exact h.ip z hz
  · rcases other z hz with rfl | ⟨hz, _⟩
    · exact sp
    · exact h.srt z hz
  · rcases other z hz with rfl | ⟨hz, _⟩
    · rcases sub p hp with rfl | hp
      · refine ⟨n, rfl, by omega, h.hi n (Nat.le_refl _), ?_, ?_⟩
        · rw [at1_same]
          show d = x.ip.d
          rw [hi]
          rfl
        · rw [at1_same]
          exact hX.since1
      · obtain ⟨q, e1, e2, e3, e4, e5⟩ := h.pd x hx p hp
        exact ⟨q, e1, by omega, e3, by rw [at1_ne _ _ (by omega)]; exact e4, by rw [at1_ne _ _ (by omega)]; exact e5⟩
    · obtain ⟨q, e1, e2, e3, e4, e5⟩ := h.pd z hz p hp
      exact ⟨q, e1, by omega, e3, by rw [at1_ne _ _ (by omega)]; exact e4, by rw [at1_ne _ _ (by omega)]; exact e5⟩
  · rw [List.nodup_append]
    refine ⟨h.tn, ?_, fun a ha b hb e => ?_⟩
    · have hN : (wtG x.pd).Pairwise (· < ·) := by
        unfold wtG
        split
        · exact List.Pairwise.nil
        · exact sorted.sublist (List.take_sublist 1 _)
      exact hN.imp (fun {a b} hab e => by omega)
    · subst e
      obtain ⟨q, _, _, _, e4⟩ := h.t a ha
      exact e4 x hx (subG a hb)
  · rcases List.mem_append.1 hp with hp | hp
    · obtain ⟨q, e1, e2, e3, e4⟩ := h.t p hp
      refine ⟨q, e1, by omega, e3, fun z hz => ?_⟩
      rcases other z hz with rfl | ⟨hz, _⟩
      · intro e
        rcases sub p e with e | e
        · omega
        · exact e4 x hx e
      · exact e4 z hz
    · obtain ⟨q, e1, e2, e3, _⟩ := h.pd x hx p (subG p hp)
      refine ⟨q, e1, by omega, e3, fun z hz => ?_⟩
      rcases other z hz with rfl | ⟨hz, hne⟩
      · exact gp p hp
      · exact fun e => hne (h.apart hz hx e (subG p hp))
  · by_cases e : q = n
    · subst e
      refine .inr ⟨_, mem_set_new hk, ?_⟩
      show (q : Int) ∈ wtP x.pd (q : Int)
      unfold wtP
      split <;> simp
    · rcases h.all q (by omega) hT with e | ⟨z, hz, hp⟩
      · exact .inl (List.mem_append_left _ e)
      · rcases mem_set (y := { x with pd := wtP x.pd (n : Int) }) hk hz with rfl | hz
        · rcases cov _ hp with e | e
          · exact .inl (List.mem_append_right _ e)
          · exact .inr ⟨_, mem_set_new hk, e⟩
        · exact .inr ⟨z, hz, hp⟩
  · rcases other z hz with rfl | ⟨hz, _⟩
    · exact h.ask x hx hs
    · exact h.ask z hz hs1
  · rcases other z hz with rfl | ⟨hz, _⟩
    · exact absurd hs hs1
    · exact h.mac z hz hs1
theorem OnM.find (h : OnM len now n WH WN TD L T) {d : Int} (h0 : 0 ≤ now) (hl : now < len) :
    ((fd (lp d) n now L).err = 80 ∧ OnM len now (n + 1) (at1 WH n d) (at1 WN n now) TD (fd (lp d) n now L).L (T ++ (fd (lp d) n now L).gone)) ∨
    (((fd (lp d) n now L).err = 81 ∨ (fd (lp d) n now L).err = 0 ∧ (fd (lp d) n now L).mac.a = 4) ∧ (fd (lp d) n now L).gone = [] ∧ OnM len now n WH WN TD (fd (lp d) n now L).L T) := by
  unfold fd
  cases hf : fndI (lp d) L with
  | none =>
    cases hr : room L with
    | none => exact .inr ⟨.inl rfl, rfl, h⟩
    | some L' => exact .inl ⟨rfl, by rw [List.append_nil]; exact h.add h0 hl hf hr⟩
  | some k =>
    obtain ⟨x, hk, hi⟩ := fndI_spec hf
    have hx := List.mem_of_getElem? hk
    simp only [hk]
    split
    · rename_i hs
      exact .inl ⟨rfl, h.wait hk hi hs⟩
    · rename_i hs
      split
      · have hX := h.ok.all x hx
        refine .inr ⟨.inr ⟨rfl, h.mac x hx hs⟩, rfl, h.turn hk rfl { hX with st := .inr (.inr rfl), asked0 := h0, asked1 := Int.le_refl _, tries0 := by simp, tries1 := by simp, none := fun _ => hX.none hs } rfl (.inl (Int.le_refl _)) (fun e => by cases e) (fun _ => h.mac x hx hs)⟩
      · exact .inr ⟨.inr ⟨rfl, h.mac x hx hs⟩, rfl, h⟩
/-- one is heard of: what waits for it goes -/
theorem OnM.goes (h : OnM len now n WH WN TD L T) {k : Nat} {x : Nb} (hk : L[k]? = some x) (h0 : 0 ≤ now) (m : M6) (hm : m.a = 4) : OnM len now n WH WN TD (L.set k { x with mac := m, st := 2, since := now, tries := 0, pd := [] }) (x.pd ++ T) := by
  have hx := List.mem_of_getElem? hk
  have hX := h.ok.all x hx
  have other : ∀ z ∈ L.set k { x with mac := m, st := 2, since := now, tries := 0, pd := [] }, z = { x with mac := m, st := 2, since := now, tries := 0, pd := [] } ∨ (z ∈ L ∧ z ≠ x) := fun z hz => set_other h.ok.ips hk hz
  refine ⟨h.ok.set hk rfl { hX with since0 := h0, since1 := Int.le_refl _, st := .inr (.inl rfl), tries0 := by simp, tries1 := by simp, pd2 := by simp, none := fun _ => rfl }, h.hi, fun z hz => ?_, fun z hz => ?_, fun z hz p hp => ?_, ?_, fun p hp => ?_, fun q hq hT => ?_, fun z hz hs1 => ?_, fun z hz hs1 => ?_⟩
  · rcases other z hz with rfl | ⟨hz, _⟩
    · exact h.ip x hx
    · exact h.ip z hz
  · rcases other z hz with rfl | ⟨hz, _⟩
    · exact List.Pairwise.nil
    · exact h.srt z hz
  · rcases other z hz with rfl | ⟨hz, _⟩
    · cases hp
    · exact h.pd z hz p hp
  · rw [List.nodup_append]
    refine ⟨(h.srt x hx).imp (fun {a b} hab e => by omega), h.tn, fun a ha b hb e => ?_⟩
    subst e
    obtain ⟨q, _, _, _, e4⟩ := h.t a hb
    exact e4 x hx ha
  · rcases List.mem_append.1 hp with hp | hp
    · obtain ⟨q, e1, e2, e3, _⟩ := h.pd x hx p hp
      refine ⟨q, e1, e2, e3, fun z hz => ?_⟩
      rcases other z hz with rfl | ⟨hz, hne⟩
      · exact fun e => by cases e
      · exact fun e => hne (h.apart hz hx e hp)
    · obtain ⟨q, e1, e2, e3, e4⟩ := h.t p hp
      refine ⟨q, e1, e2, e3, fun z hz => ?_⟩
      rcases other z hz with rfl | ⟨hz, hne⟩
      · exact fun e => by cases e
      · exact e4 z hz
  · rcases h.all q hq hT with e | ⟨z, hz, hp⟩
    · exact .inl (List.mem_append_right _ e)
    · rcases mem_set (y := { x with mac := m, st := 2, since := now, tries := 0, pd := [] }) hk hz with rfl | hz
      · exact .inl (List.mem_append_left _ hp)
      · exact .inr ⟨z, hz, hp⟩
  · rcases other z hz with rfl | ⟨hz, _⟩
    · cases hs1
    · exact h.ask z hz hs1
  · rcases other z hz with rfl | ⟨hz, _⟩
    · exact hm
    · exact h.mac z hz hs1
theorem OnM.known (h : OnM len now n WH WN TD L T) {d : Int} (hf : fndI (lp d) L = none) (hl : L.length < 8) (h0 : 0 ≤ now) (m : M6) (hm : m.a = 4) : OnM len now n WH WN TD (L ++ [⟨lp d, 2, m, now, now, 0, []⟩]) T := by
  have back : ∀ z ∈ L ++ [(⟨lp d, 2, m, now, now, 0, []⟩ : Nb)], z = ⟨lp d, 2, m, now, now, 0, []⟩ ∨ z ∈ L := fun z hz => by
    rcases List.mem_append.1 hz with hz | hz
    · exact .inr hz
    · exact .inl (List.mem_singleton.1 hz)
  refine ⟨h.ok.add hl ⟨h0, Int.le_refl _, h0, Int.le_refl _, .inr (.inl rfl), by simp, by simp, by simp, by simp⟩ (fun x hx => fndI_not hf x hx), h.hi, fun z hz => ?_, fun z hz => ?_, fun z hz p hp => ?_, h.tn, fun p hp => ?_, fun q hq hT => ?_, fun z hz hs1 => ?_, fun z hz hs1 => ?_⟩
  · rcases back z hz with rfl | hz
    · rfl
    · exact h.ip z hz
  · rcases back z hz with rfl | hz
    · exact List.Pairwise.nil
    · exact h.srt z hz
  · rcases back z hz with rfl | hz
    · cases hp
    · exact h.pd z hz p hp
  · obtain ⟨q, e1, e2, e3, e4⟩ := h.t p hp
    refine ⟨q, e1, e2, e3, fun z hz => ?_⟩
    rcases back z hz with rfl | hz
    · exact fun e => by cases e
    · exact e4 z hz
  · rcases h.all q hq hT with e | ⟨z, hz, hp⟩
    · exact .inl e
    · exact .inr ⟨z, List.mem_append_left _ hz, hp⟩
  · rcases back z hz with rfl | hz
    · cases hs1
    · exact h.ask z hz hs1
  · rcases back z hz with rfl | hz
    · exact hm
    · exact h.mac z hz hs1
def onA (d : Int) : Ar := ⟨true, ⟨4, d, 0, 0, 0, 0⟩, lp d, zM, hostI⟩
theorem OnM.heard (h : OnM len now n WH WN TD L T) (d : Int) (h0 : 0 ≤ now) :
    (hd hostI (onA d) now L).ans = false ∧ (hd hostI (onA d) now L).may.Pairwise (· < ·) ∧ (∀ p ∈ (hd hostI (onA d) now L).may, ∃ q : Nat, p = (q : Int) ∧ q < n ∧ WH q = d) ∧ ((hd hostI (onA d) now L).may ≠ [] → (hd hostI (onA d) now L).mac = (onA d).sm) ∧ OnM len now n WH WN TD (hd hostI (onA d) now L).L ((hd hostI (onA d) now L).may ++ T) := by
  unfold hd
  split
  · exact ⟨rfl, List.Pairwise.nil, (fun p hp => by cases hp), (fun e => absurd rfl e), h⟩
  · cases hf : fndI (onA d).si L with
    | some k =>
      obtain ⟨x, hk, hi⟩ := fndI_spec hf
      have hx := List.mem_of_getElem? hk
      simp only [hk]
      refine ⟨rfl, h.srt x hx, fun p hp => ?_, fun e => if_neg e, h.goes hk h0 _ rfl⟩
      obtain ⟨q, e1, e2, _, e4, _⟩ := h.pd x hx p hp
      refine ⟨q, e1, e2, ?_⟩
      rw [e4, hi]
      rfl
    | none =>
      refine ⟨rfl, List.Pairwise.nil, (fun p hp => by cases hp), (fun e => absurd rfl e), ?_⟩
      show OnM len now n WH WN TD (if _ then _ else _) T
      split
      · rename_i hc
        exact h.known hf hc.2 h0 _ rfl
      · exact h
/-- one is told -/
theorem OnM.tell {p : Int} (h : OnM len now n WH WN TD L (p :: T)) : ∃ q : Nat, p = (q : Int) ∧ q < n ∧ TD q = false ∧ OnM len now n WH WN (at1 TD q true) L T := by
  obtain ⟨q, e1, e2, e3, e4⟩ := h.t p (by simp)
  have hn := List.nodup_cons.1 h.tn
  refine ⟨q, e1, e2, e3, h.ok, fun k hk => by rw [at1_ne _ _ (by omega)]; exact h.hi k hk, h.ip, h.srt, fun x hx p' hp => ?_, hn.2, fun p' hp => ?_, fun k hk hT => ?_, h.ask, h.mac⟩
  · obtain ⟨k, f1, f2, f3, f4⟩ := h.pd x hx p' hp
    refine ⟨k, f1, f2, ?_, f4⟩
    rw [at1_ne _ _ (fun e => e4 x hx (by rw [e1, ← e, ← f1]; exact hp))]
    exact f3
  · obtain ⟨k, f1, f2, f3, f4⟩ := h.t p' (by simp [hp])
    refine ⟨k, f1, f2, ?_, f4⟩
    rw [at1_ne _ _ (fun e => hn.1 (by rw [e1, ← e, ← f1]; exact hp))]
    exact f3
  · by_cases e : k = q
    · rw [e, at1_same] at hT
      cases hT
    · rw [at1_ne _ _ e] at hT
      rcases h.all k hk hT with f | f
      · rcases List.mem_cons.1 f with f | f
        · omega
        · exact .inl f
      · exact .inr f
theorem OnM.age (h : OnM len now n WH WN TD L []) {q : Nat} (hq : q < n) (hT : TD q = false) : now - WN q ≤ 8 := by
  rcases h.all q hq hT with e | ⟨x, hx, hp⟩
  · cases e
  · obtain ⟨q', e1, _, _, _, e5⟩ := h.pd x hx _ hp
    obtain rfl : q = q' := by omega
    obtain ⟨a1, a2, a3, a4⟩ := h.ask x hx (h.one hx hp)
    have := (h.ok.all x hx).tries1
    omega
theorem OnM.none (h : OnM len now n WH WN TD L T) (hl : (len : Int) + 9 ≤ now) : pnd L = [] := by
  unfold pnd
  rw [List.flatMap_eq_nil_iff]
  intro x hx
  by_cases hs : x.st = 1
  · obtain ⟨a1, a2, a3, a4⟩ := h.ask x hx hs
    have := (h.ok.all x hx).tries1
    omega
  · exact (h.ok.all x hx).none hs
end
end Go.Proofs.Ytjaodjlgnclkhaa
