
/-
  The document's cache: the contract of Find.
-/
import Derived.Test.YtdcpnjlldocdcaaC12
import Derived.Test.YtdcpnjlldocdcaaC5
namespace Go.Proofs.Ytdcpnjlldocdcaa
open Go.RowKit Go.Shelf

theorem rFind_any {ρ : Nat → Role} {k : Nat} {W : World} {b : Nat} {m : M6} {i : I4} {L : List Nb} (h : Ca ρ k W b m i L) (hF : Fit ρ W) (now buf : Int) (hok : LOk now L) (hn1 : now ≤ 4611686018427387904) (ip : I4) :
    Calls Try.prog 27 #[.pointer (some ⟨b, 0, none⟩), ip.val, .int .i64 buf, .int .i64 now] W (FdEnd ρ k W b m i ip (fd ip buf now L)) := by
  obtain ⟨lv, Lt, rfl, h⟩ := h
  have hlen : Lt.length ≤ 8 := by have := hok.len; simpa using this
  cases hf : fndI ip (Lt.map Prod.snd) with
  | none =>
    by_cases hl : Lt.length < 8
    · exact rfind_room h hF now buf hok ip hf hl
    · exact rfind_full h hF now buf hok ip hf (by omega)
  | some q =>
    obtain ⟨x, hx, _⟩ := fndI_spec hf
    obtain ⟨t, hq⟩ := get_snd hx
    rcases (hok.all x (List.mem_of_getElem? hx)).st with hs | hs | hs
    · exact rfind_ask h hF now buf hok ip q t x hf hq hs
    · by_cases hp : 64 ≤ now - x.since
      · exact rfind_old h hF now buf hok ip q t x hf hq hs hp hn1
      · exact rfind_known h hF now buf hok ip q t x hf hq hs hp
    · exact rfind_aged h hF now buf hok ip q t x hf hq hs
end Go.Proofs.Ytdcpnjlldocdcaa
