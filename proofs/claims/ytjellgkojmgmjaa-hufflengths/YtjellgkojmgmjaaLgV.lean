/- The library's stable sort of parcels, of rows of whatever length up to a million; the law HuffLengths, walked whole. -/
import Derived.Test.YtjellgkojmgmjaaHsG
import Derived.Test.YtjellgkojmgmjaaLgW
namespace Go.Proofs.Ytjellgkojmgmjaa
open Go.RowKit

theorem sorts_any (w : World) (base : Nat) (v : Value) (xs : List Pv) (hx : xs.length ≤ 1000000) : Sorts w base v xs := by
  intro h
  rcases h.cases with ⟨rfl, rfl⟩ | ⟨g, cap, rfl, hb, hg, h1, h2, hH⟩
  · exact sorts_small w base _ [] (by decide) h
  · refine sortFunc_of (some ⟨g, 0, none⟩) xs.length cap w (fun w' => ∃ ys, ys.Perm xs ∧ Rising ys ∧ PRow w' base (.slice (some ⟨g, 0, none⟩) xs.length cap) ys ∧ w.grownBy w' (some g)) ?_
    refine (stable_any g cap xs.length xs.toArray w ⟨enc_len, enc_one, hH, hg⟩ List.size_toArray hx).mono ?_
    rintro e w' ⟨he, d, ⟨hp0, hr⟩, hs⟩
    have hp := perm_of hp0
    have hl := hp.length_eq
    have hs' : SWK Pv.enc 2 w g 0 d.toList.toArray w' := by rw [Array.toArray_toList]; exact hs
    refine ⟨he, d.toList, hp, rising_of ?_, h.sorted hs' hl, (swk_heap hs').1⟩
    rw [hl, Array.toArray_toList]
    exact stR_sorted.2 hr
theorem sortsAll : SortsAll := fun w base v xs hx => sorts_any w base v xs (by omega)
theorem hlengths_all (a : Option Addr) (len cap : Nat) (most : Int) (w : World) (h : IArg w a len cap) (hw : (Lit.int .i64 most).wf = true) :
    Calls Try.prog 7 #[.slice a len cap, .int .i64 most] w fun e w' => e = .returned (.bool true) ∧ Below w.heap.size w w' := hlengths_walk sortsAll a len cap most w h hw
end Go.Proofs.Ytjellgkojmgmjaa
