
/-
  Package arp: the contract of Find.
-/
import Derived.Test.YtdcpnjlldocdcaaA23
import Derived.Test.YtdcpnjlldocdcaaA24
import Derived.Test.YtdcpnjlldocdcaaA25
namespace Go.Proofs.Ytdcpnjlldocdcaa
open Go.RowKit Go.Shelf

theorem Find_any {ρ : Nat → Role} {k : Nat} {W : World} {b : Nat} {m : M6} {i : I4} {L : List Nb} (h : Ca ρ k W b m i L) (hF : Fit ρ W) (now buf : Int) (hok : LOk now L) (hn1 : now ≤ 4611686018427387904) (ip : I4) :
    Calls Try.prog 19 #[.pointer (some ⟨b, 0, none⟩), ip.val, .int .i64 buf, .int .i64 now] W (FdEnd ρ k W b m i ip (fd ip buf now L)) := by
  obtain ⟨lv, Lt, rfl, h⟩ := h
  cases hf : fndI ip (Lt.map Prod.snd) with
  | none =>
    cases hr : room (Lt.map Prod.snd) with
    | none => exact find_dead h hF now buf hok ip hf hr
    | some L3 => exact find_room h hF now buf hok ip hf L3 hr
  | some q =>
    obtain ⟨x, hx, _⟩ := fndI_spec hf
    obtain ⟨t, hq⟩ := get_snd hx
    rcases (hok.all x (List.mem_of_getElem? hx)).st with hs | hs | hs
    · exact find_ask h hF now buf hok ip q t x hf hq hs
    · by_cases hp : 64 ≤ now - x.since
      · exact find_old h hF now buf hok ip q t x hf hq hs hp hn1
      · exact find_known h hF now buf hok ip q t x hf hq hs hp hn1
    · exact find_aged h hF now buf hok ip q t x hf hq hs
end Go.Proofs.Ytdcpnjlldocdcaa
