
/-
  Package icmp: Decode.
-/
import Derived.Test.YtgempelfamjabaaT3
namespace Go.Proofs.Ytgempelfamjabaa
open Go.RowKit Go.Shelf

theorem results_2 {fn : Func} {p a : Tmp} {T : TypeId} (h : fn.results = #[.cell p T, .tmp a]) (tmps : Array Value) (w : World) (s : Nat) (v va : Value) (hp : tmps.getD p undef = .pointer (some ⟨s, 0, none⟩)) (ha : tmps.getD a undef = va) (hL : (loadVar T ⟨s, 0, none⟩).run Try.prog w = .ok v w) : (results fn tmps).run Try.prog w = .ok (.tuple #[v, va]) w := by
  have hp' : (asAddr (tmps.getD p undef)).run Try.prog w = .ok ⟨s, 0, none⟩ w := by rw [hp]; rfl
  have hp2 : (asAddr (tmps[p]?.getD undef)).run Try.prog w = .ok ⟨s, 0, none⟩ w := by simpa using hp'
  have ha' : tmps[a]?.getD undef = va := by simpa using ha
  simp only [results, h]
  simp [Sem.run_bind, Result.andThen, hp2, hL, ha']
/-- a message in numbers -/
structure Ms where
  t : Int
  c : Int
  i : Int
  s : Int
  u : Int
  d : List Int
def Ms.cells (m : Ms) (dv : Value) : List Value := imL m.t m.c m.i m.s m.u dv
def zMs : Ms := ⟨0, 0, 0, 0, 0, []⟩
/-- what the bytes say -/
def rdM (bs : List Int) : Ms := ⟨nb bs 0, nb bs 1, w16 bs 4, rdS bs, rdU bs, bs.drop 8⟩
def Ms.may (m : Ms) : Bool := mbI m.t m.c m.i m.s m.u
def idE (bs : List Int) : Int := if bs.length < 8 then 3 else if 1024 < bs.length then 2 else if csum bs ≠ 0 then 5 else if (rdM bs).may = false then 4 else 0
def idM (bs : List Int) : Ms := if idE bs = 0 then rdM bs else zMs
end Go.Proofs.Ytgempelfamjabaa