import Derived.Test.YtmlondjkjdlcjaaAdF
import Derived.Test.YtmlondjkjdlcjaaAdJ
namespace Go.Proofs.Ytmlondjkjdlcjaa
open Go.RowKit
set_option maxHeartbeats 400000 in
theorem together_law (a : Option Addr) (n c : Nat) (b : Option Addr) (m d : Nat) (w : World) (ha : BArg w a n c) (hb : BArg w b m d) :
    Calls Try.prog 6 #[.slice a n c, .slice b m d] w fun e w' => e = .returned (.bool true) ∧ Below w.heap.size w w' := by
  obtain ⟨A, hA, hAn, hn, hc, _, hAr⟩ := ha
  obtain ⟨B, hB, hBn, hm, hd, _, hBr⟩ := hb
  have J := join_more 1 A B
  rw [hBn] at J
  have HJ : Hid (joinN (adlM 1 A) (adlM 1 B) m = adlM (adlM 1 A) B) := J
  have OA := fun (w' : World) (h : Below w.heap.size w w') => of_any a n c A w' hAn (by omega) hA (hAr.old h)
  have OB := fun (w' : World) (h : Below w.heap.size w w') => of_any b m d B w' hBn (by omega) hB (hBr.old h)
  have MB := fun (w' : World) (h : Below w.heap.size w w') => more_any (adlM 1 A) b m d B w' (u32_adl _ _) hBn (by omega) hB (hBr.old h)
  have JJ := fun (w' : World) => join_pos (adlM 1 A) (adlM 1 B) m w' (u32_adl _ _) (u32_adl _ _) (by omega) (by omega)
  rw [HJ.out] at JJ
  clear J HJ hA hB hAr hBr hAn hBn
  generalize adlM (adlM 1 A) B = r at *
  generalize adlM 1 A = p at *
  generalize adlM 1 B = q at *
  go_enter Try.func6, Try.ntmps6
  go_wp2_with fail
  refine (fixed_any _).mono ?_
  rintro e w1 ⟨rfl, hbel⟩
  go_wp2_with fail
  refine (OA _ hbel).mono ?_
  rintro e w2 ⟨rfl, rfl⟩
  go_wp2_with fail
  refine (OB _ hbel).mono ?_
  rintro e w2 ⟨rfl, rfl⟩
  go_wp2_with fail
  refine (JJ _).mono ?_
  rintro e w2 ⟨rfl, rfl⟩
  go_wp2_with fail
  refine (OA _ hbel).mono ?_
  rintro e w2 ⟨rfl, rfl⟩
  go_wp2_with fail
  refine (MB _ hbel).mono ?_
  rintro e w2 ⟨rfl, rfl⟩
  go_wp2
  go_ret
  exact ⟨rfl, hbel⟩
end Go.Proofs.Ytmlondjkjdlcjaa
