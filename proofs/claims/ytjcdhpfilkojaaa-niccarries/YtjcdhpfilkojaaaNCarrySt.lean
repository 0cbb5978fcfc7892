/-
  NicCarries: what lies in memory between its rounds.
-/
import Derived.Test.YtjcdhpfilkojaaaNCarry
import Derived.Test.YtjcdhpfilkojaaaNLaw
namespace Go.Proofs.Ytjcdhpfilkojaaa
open Go.RowKit

/-- the device's block, and the blocks of the three lists -/
def Rw (g : Nat) (p q r : Option Addr) : Nat → Prop := fun x => x = g ∨ p = some ⟨x, 0, none⟩ ∨ q = some ⟨x, 0, none⟩ ∨ r = some ⟨x, 0, none⟩

structure St (n₀ : Nat) (W : World) (g : Nat) (D : Dev) (S : List (List Int)) (T : List Int) (p : Option Addr) (cp : Nat) (q : Option Addr) (cq : Nat) (r : Option Addr) (cr m : Nat) (w : World) : Prop where
  dev : DevAt LN (Rw g p q r) w g D
  sent : ∃ vs, w.ownsRow (g + 1) 29 1 (.slice p S.length cp) S.length vs ∧ ∀ j, j < S.length → IsF (fun x => n₀ ≤ x) w (vs[j]?.getD undef) (S[j]?.getD [])
  ticks : w.ownsRow (g + 1) 3 1 (.slice q T.length cq) T.length (T.map (Value.int .i64))
  come : ∃ zs, w.ownsRow (g + 1) 29 1 (.slice r m cr) m zs
  pq : ∀ k, p = some ⟨k, 0, none⟩ → q ≠ some ⟨k, 0, none⟩
  pr : ∀ k, p = some ⟨k, 0, none⟩ → r ≠ some ⟨k, 0, none⟩
  qr : ∀ k, q = some ⟨k, 0, none⟩ → r ≠ some ⟨k, 0, none⟩
  bel : Below n₀ W w
  gn : n₀ ≤ g

theorem row_but {B : Nat} {e : TypeId} {w w' : World} {a : Option Addr} {n c : Nat} {xs : List Value} (h : w.ownsRow B e 1 (.slice a n c) n xs) {K : Nat → Prop} (hb : But K w w') (hk : ∀ k, a = some ⟨k, 0, none⟩ → B ≤ k → ¬ K k) : w'.ownsRow B e 1 (.slice a n c) n xs := by
  obtain ⟨h1, h2 | ⟨g, cap, cur, e1, hg, hh, rr⟩⟩ := h
  · exact ⟨h1, .inl h2⟩
  · have e2 := e1
    simp only [Value.slice.injEq] at e2
    exact ⟨h1, .inr ⟨g, cap, cur, e1, hg, by rw [hb.block g (Array.getElem?_eq_some_iff.1 hh).1 (hk g e2.1 hg)]; exact hh, rr⟩⟩
theorem row_at {B : Nat} {e : TypeId} {w : World} {k n c : Nat} {xs : List Value} (h : w.ownsRow B e 1 (.slice (some ⟨k, 0, none⟩) n c) n xs) : B ≤ k ∧ k < w.heap.size := by
  obtain ⟨_, ⟨e1, _⟩ | ⟨g, cap, cur, e1, hg, hh, _⟩⟩ := h
  · simp at e1
  · simp only [Value.slice.injEq, Option.some.injEq, Addr.mk.injEq, and_true] at e1
    obtain ⟨rfl, _⟩ := e1
    exact ⟨hg, (Array.getElem?_eq_some_iff.1 hh).1⟩

section
variable {n₀ : Nat} {W : World} {g : Nat} {D : Dev} {S : List (List Int)} {T : List Int} {p : Option Addr} {cp : Nat} {q : Option Addr} {cq : Nat} {r : Option Addr} {cr m : Nat} {w : World}
theorem St.lt (h : St n₀ W g D S T p cp q cq r cr m w) : ∀ x, Rw g p q r x → x < w.heap.size := fun x e => by
  rcases e with e | e | e | e
  · rw [e]; exact h.dev.lt
  · obtain ⟨vs, hv, _⟩ := h.sent; rw [e] at hv; exact (row_at hv).2
  · have hv := h.ticks; rw [e] at hv; exact (row_at hv).2
  · obtain ⟨vs, hv⟩ := h.come; rw [e] at hv; exact (row_at hv).2
/-- the device has done something -/
theorem St.acts (h : St n₀ W g D S T p cp q cq r cr m w) {w' : World} {D' : Dev} (hd : DevAt LN (Rw g p q r) w' g D') (hb : But (Only g) w w') : St n₀ W g D' S T p cp q cq r cr m w' := by
  obtain ⟨vs, hv, hf⟩ := h.sent
  obtain ⟨zs, hz⟩ := h.come
  have no : ∀ k, g + 1 ≤ k → ¬ Only g k := fun k hk e => by have : k = g := e; omega
  exact ⟨hd, ⟨vs, row_but hv hb (fun k _ hk => no k hk), fun j hj => (hf j hj).but hb (fun x e => by have : x = g := e; rw [this]; exact h.gn)⟩, row_but h.ticks hb (fun k _ hk => no k hk), ⟨zs, row_but hz hb (fun k _ hk => no k hk)⟩, h.pq, h.pr, h.qr,
    h.bel.trans (hb.below (Nat.le_of_lt (Nat.lt_of_le_of_lt h.gn h.dev.lt)) (fun x hx e => by have : x = g := e; have := h.gn; omega)), h.gn⟩
/-- nothing that was there has turned -/
theorem St.more (h : St n₀ W g D S T p cp q cq r cr m w) {w' : World} (hb : Below w.heap.size w w') : St n₀ W g D S T p cp q cq r cr m w' := by
  obtain ⟨vs, hv, hf⟩ := h.sent
  obtain ⟨zs, hz⟩ := h.come
  have hb' : But (fun _ => False) w w' := But.of_below hb
  exact ⟨h.dev.later hb, ⟨vs, row_but hv hb' (fun _ _ _ => id), fun j hj => (hf j hj).later hb⟩, row_but h.ticks hb' (fun _ _ _ => id), ⟨zs, row_but hz hb' (fun _ _ _ => id)⟩, h.pq, h.pr, h.qr, h.bel.trans (hb.mono (Nat.le_of_lt (Nat.lt_of_le_of_lt h.gn h.dev.lt))), h.gn⟩
theorem St.al (h : St n₀ W g D S T p cp q cq r cr m w) (o : Obj) : St n₀ W g D S T p cp q cq r cr m (w.alloc o) := h.more ((Below.refl _ _).alloc (Nat.le_refl _) o)

/-- a device when one list has grown: its block is the old one, or new -/
theorem dev_grown {A A' : Nat → Prop} {b : Nat} {w' : World} {a a' : Option Addr} (h : DevAt LN A w b D) (hb : But (fun k => a = some ⟨k, 0, none⟩) w w') (hA : ∀ k, a = some ⟨k, 0, none⟩ → A k) (hnb : a ≠ some ⟨b, 0, none⟩)
    (hfr : ∀ k, a' = some ⟨k, 0, none⟩ → a = some ⟨k, 0, none⟩ ∨ w.heap.size ≤ k) (hA' : ∀ x, A' x → A x ∨ a' = some ⟨x, 0, none⟩) (hb' : A' b) : DevAt LN A' w' b D :=
  ((h.avoid (A' := fun x => A x ∨ w.heap.size ≤ x) (fun x hx e => e.elim id (fun e => by omega)) (.inl h.mem)).but hb (fun k e => .inl (hA k e)) hnb).avoid (fun x _ e => (hA' x e).elim .inl (fun e => (hfr x e).elim (fun e => .inl (hA x e)) .inr)) hb'

theorem St.ne (h : St n₀ W g D S T p cp q cq r cr m w) : p ≠ some ⟨g, 0, none⟩ ∧ q ≠ some ⟨g, 0, none⟩ ∧ r ≠ some ⟨g, 0, none⟩ := by
  obtain ⟨vs, hv, _⟩ := h.sent
  obtain ⟨zs, hz⟩ := h.come
  have hq := h.ticks
  refine ⟨fun e => ?_, fun e => ?_, fun e => ?_⟩
  · rw [e] at hv; have := (row_at hv).1; omega
  · rw [e] at hq; have := (row_at hq).1; omega
  · rw [e] at hz; have := (row_at hz).1; omega

theorem St.push_sent (h : St n₀ W g D S T p cp q cq r cr m w) {w' : World} {a' : Option Addr} {c' : Nat} {bv : Value} {bs : List Int} {vs : List Value} (hf : ∀ j, j < S.length → IsF (fun x => n₀ ≤ x) w (vs[j]?.getD undef) (S[j]?.getD [])) (hvl : vs.length = S.length)
    (hv : IsF (fun x => n₀ ≤ x) w bv bs) (ho : w'.ownsRow (g + 1) 29 1 (.slice a' (S.length + 1) c') (S.length + 1) (vs ++ [bv])) (hb : But (fun k => p = some ⟨k, 0, none⟩) w w') (hfr : ∀ k, a' = some ⟨k, 0, none⟩ → p = some ⟨k, 0, none⟩ ∨ w.heap.size ≤ k) :
    St n₀ W g D (S ++ [bs]) T a' c' q cq r cr m w' := by
  obtain ⟨zs, hz⟩ := h.come
  obtain ⟨vs0, hv0, _⟩ := h.sent
  have hK : ∀ k, p = some ⟨k, 0, none⟩ → n₀ ≤ k := fun k e => by rw [e] at hv0; have := (row_at hv0).1; have := h.gn; omega
  have ltq : ∀ k, q = some ⟨k, 0, none⟩ → k < w.heap.size := fun k e => h.lt k (.inr (.inr (.inl e)))
  have ltr : ∀ k, r = some ⟨k, 0, none⟩ → k < w.heap.size := fun k e => h.lt k (.inr (.inr (.inr e)))
  refine ⟨dev_grown h.dev hb (fun k e => .inr (.inl e)) h.ne.1 hfr (fun x e => ?_) (.inl rfl), ⟨vs ++ [bv], by simpa using ho, fun j hj => ?_⟩, row_but h.ticks hb (fun k e _ e2 => h.pq k e2 e), ⟨zs, row_but hz hb (fun k e _ e2 => h.pr k e2 e)⟩, fun k e e2 => ?_, fun k e e2 => ?_, h.qr, ?_, h.gn⟩
  · rcases e with e | e | e | e
    · exact .inl (.inl e)
    · exact .inr e
    · exact .inl (.inr (.inr (.inl e)))
    · exact .inl (.inr (.inr (.inr e)))
  · simp only [List.length_append, List.length_cons, List.length_nil] at hj
    by_cases e : j < S.length
    · rw [List.getElem?_append_left (by omega), List.getElem?_append_left e]
      exact (hf j e).but hb hK
    · have : j = S.length := by omega
      subst this
      rw [List.getElem?_append_right (by omega), List.getElem?_append_right (Nat.le_refl _), hvl, Nat.sub_self]
      exact hv.but hb hK
  · rcases hfr k e with e3 | e3
    · exact h.pq k e3 e2
    · have := ltq k e2; omega
  · rcases hfr k e with e3 | e3
    · exact h.pr k e3 e2
    · have := ltr k e2; omega
  · exact h.bel.trans (hb.below (Nat.le_of_lt (Nat.lt_of_le_of_lt h.gn h.dev.lt)) (fun x hx e => by have := hK x e; omega))
theorem St.push_tick (h : St n₀ W g D S T p cp q cq r cr m w) {w' : World} {a' : Option Addr} {c' : Nat} {x : Int}
    (ho : w'.ownsRow (g + 1) 3 1 (.slice a' (T.length + 1) c') (T.length + 1) (T.map (Value.int .i64) ++ [.int .i64 x])) (hb : But (fun k => q = some ⟨k, 0, none⟩) w w') (hfr : ∀ k, a' = some ⟨k, 0, none⟩ → q = some ⟨k, 0, none⟩ ∨ w.heap.size ≤ k) :
    St n₀ W g D S (T ++ [x]) p cp a' c' r cr m w' := by
  obtain ⟨zs, hz⟩ := h.come
  obtain ⟨vs, hv, hf⟩ := h.sent
  have hq0 := h.ticks
  have hK : ∀ k, q = some ⟨k, 0, none⟩ → n₀ ≤ k := fun k e => by rw [e] at hq0; have := (row_at hq0).1; have := h.gn; omega
  have ltp : ∀ k, p = some ⟨k, 0, none⟩ → k < w.heap.size := fun k e => h.lt k (.inr (.inl e))
  have ltr : ∀ k, r = some ⟨k, 0, none⟩ → k < w.heap.size := fun k e => h.lt k (.inr (.inr (.inr e)))
  refine ⟨dev_grown h.dev hb (fun k e => .inr (.inr (.inl e))) h.ne.2.1 hfr (fun x e => ?_) (.inl rfl), ⟨vs, row_but hv hb (fun k e _ e2 => h.pq k e e2), fun j hj => (hf j hj).but hb hK⟩, by simpa using ho, ⟨zs, row_but hz hb (fun k e _ e2 => h.qr k e2 e)⟩, fun k e e2 => ?_, h.pr, fun k e e2 => ?_, ?_, h.gn⟩
  · rcases e with e | e | e | e
    · exact .inl (.inl e)
    · exact .inl (.inr (.inl e))
    · exact .inr e
    · exact .inl (.inr (.inr (.inr e)))
  · rcases hfr k e2 with e3 | e3
    · exact h.pq k e e3
    · have := ltp k e; omega
  · rcases hfr k e with e3 | e3
    · exact h.qr k e3 e2
    · have := ltr k e2; omega
  · exact h.bel.trans (hb.below (Nat.le_of_lt (Nat.lt_of_le_of_lt h.gn h.dev.lt)) (fun x hx e => by have := hK x e; omega))
theorem St.push_come (h : St n₀ W g D S T p cp q cq r cr m w) {w' : World} {a' : Option Addr} {c' : Nat} {zs' : List Value}
    (ho : w'.ownsRow (g + 1) 29 1 (.slice a' (m + 1) c') (m + 1) zs') (hb : But (fun k => r = some ⟨k, 0, none⟩) w w') (hfr : ∀ k, a' = some ⟨k, 0, none⟩ → r = some ⟨k, 0, none⟩ ∨ w.heap.size ≤ k) :
    St n₀ W g D S T p cp q cq a' c' (m + 1) w' := by
  obtain ⟨zs, hz⟩ := h.come
  obtain ⟨vs, hv, hf⟩ := h.sent
  have hK : ∀ k, r = some ⟨k, 0, none⟩ → n₀ ≤ k := fun k e => by rw [e] at hz; have := (row_at hz).1; have := h.gn; omega
  have ltp : ∀ k, p = some ⟨k, 0, none⟩ → k < w.heap.size := fun k e => h.lt k (.inr (.inl e))
  have ltq : ∀ k, q = some ⟨k, 0, none⟩ → k < w.heap.size := fun k e => h.lt k (.inr (.inr (.inl e)))
  refine ⟨dev_grown h.dev hb (fun k e => .inr (.inr (.inr e))) h.ne.2.2 hfr (fun x e => ?_) (.inl rfl), ⟨vs, row_but hv hb (fun k e _ e2 => h.pr k e e2), fun j hj => (hf j hj).but hb hK⟩, row_but h.ticks hb (fun k e _ e2 => h.qr k e e2), ⟨zs', ho⟩, h.pq, fun k e e2 => ?_, fun k e e2 => ?_, ?_, h.gn⟩
  · rcases e with e | e | e | e
    · exact .inl (.inl e)
    · exact .inl (.inr (.inl e))
    · exact .inl (.inr (.inr (.inl e)))
    · exact .inr e
  · rcases hfr k e2 with e3 | e3
    · exact h.pr k e e3
    · have := ltp k e; omega
  · rcases hfr k e2 with e3 | e3
    · exact h.qr k e e3
    · have := ltq k e; omega
  · exact h.bel.trans (hb.below (Nat.le_of_lt (Nat.lt_of_le_of_lt h.gn h.dev.lt)) (fun x hx e => by have := hK x e; omega))
end

theorem info_sl : (Try.prog.info? 29).map (fun i => (i.zero, i.size, i.bytes)) = some (some (.slice none 0 0), 1, 24) := by kernel_rfl
theorem info_int : (Try.prog.info? 3).map (fun i => (i.zero, i.size, i.bytes)) = some (some (.int .i64 0), 1, 8) := by kernel_rfl

/-- one element appended, as a law for the walk -/
theorem wpList_one {w : World} {ops : Array Oper} {rest : List Oper} {o : Oper} {ac : Act} {Q : Exit → Act → World → Prop} (hg : o.guard = none) (s x : Operand) (T e : TypeId)
    (hop : o.op = Op.call { callee := Callee.builtin Builtin.append, args := #[s, x], argTypes := #[T, T] }) (hty : o.type = T) (z : Value) (bytes : Nat) (ht : Try.prog.underlying T = some (.slice e)) (hinf : (Try.prog.info? e).map (fun i => (i.zero, i.size, i.bytes)) = some (some z, 1, bytes)) (hzs : z.cells.size = 1)
    (B : Nat) (a : Option Addr) (n c : Nat) (xs : List Value) (g : Nat) (u : Value) (hs : ac.eval s = .slice a n c) (hx : ac.eval x = .slice (some ⟨g, 0, none⟩) 1 1) (hr : w.ownsRow B e 1 (.slice a n c) n xs) (hu : w.cell? ⟨g, 0, none⟩ = some u) (h1 : u.oneCell' = true) (hB : B ≤ w.heap.size) (hl : n + 1 ≤ maxLen) (hl2 : (n + 1) * bytes ≤ 140737488355328)
    (hK : ∀ (a' : Option Addr) (c' : Nat) (w' : World), w'.ownsRow B e 1 (.slice a' (n + 1) c') (n + 1) (xs ++ [u]) → But (fun k => a = some ⟨k, 0, none⟩) w w' → (∀ k, a' = some ⟨k, 0, none⟩ → a = some ⟨k, 0, none⟩ ∨ w.heap.size ≤ k) → wpList Try.prog ops Q rest (ac.put o.dst (.slice a' (n + 1) c')) w') :
    wpList Try.prog ops Q (o :: rest) ac w := by
  obtain ⟨i, hi, hz0, hz1, hz2⟩ := info_parts hinf
  refine wpList_plain hg fun K hK' => ?_
  obtain ⟨a', c', w', hrun, h2, h3, h4, _⟩ := run_one T e i z bytes ht hi hz0 hz1 hz2 hzs hr g u hu h1 hB hl hl2
  unfold Oper.wp
  simp only [execOp, hop, hty]
  simp [resolve, invoke, builtin, hs, hx, hrun, Result.andThen]
  exact hK' _ _ (hK a' c' w' h2 h3 h4)

end Go.Proofs.Ytjcdhpfilkojaaa
