import Derived.Test.YtmlondjkjdlcjaaAdE
import Derived.Test.YtmlondjkjdlcjaaSmB
import Derived.Lib.SmallJoins
namespace Go.Proofs.Ytmlondjkjdlcjaa
open Go.RowKit

theorem row_arr {w : World} {s : Nat} (hs : s = w.heap.size) (l : List Int) (cs : Array Value) (fr : Nat × Nat) (hc : cs = (vals l).toArray) : Row (w.alloc (.cells cs 5 fr)) (some ⟨s, 0, none⟩) l := by
  subst hs hc
  refine .inr ⟨_, 0, rfl, fun i hi => ?_⟩
  rw [World.cell?_alloc_mark, Nat.zero_add, ← vals_at l i hi]
  simp
def wiki : List Int := [87, 105, 107, 105]
def pedia : List Int := [112, 101, 100, 105, 97]
def wikipedia : List Int := [87, 105, 107, 105, 112, 101, 100, 105, 97]
theorem bytes_of_all {l : List Int} (h : (l.all fun z => decide (0 ≤ z) && decide (z < 256)) = true) : Bytes l := by
  intro z hz
  simp at h
  exact h z hz
theorem fix_all : adlM 1 wikipedia = 300286872 := by decide
theorem fix_nil : adlM 1 [] = 1 := by decide
theorem fix_wiki : adlM 1 wiki = 64618901 := by decide
theorem fix_pedia : adlM 1 pedia = 103285252 := by decide
theorem fix_join : joinN 64618901 103285252 (max 5 0) = 300286872 := by decide
theorem fix_is1 : isN 1 = true := by decide
theorem fix_is2 : isN 65521 = false := by decide
theorem u32_adl (n : Int) (l : List Int) : U32 (adlM n l) := by have := adlM_bd n l; unfold U32; omega
theorem fix_of1 (w : World) (a : Option Addr) (h : Row w a wikipedia) : Calls Try.prog 12 #[.slice a 9 9] w fun e w' => e = .returned (.int .u32 300286872) ∧ w' = w := by
  have := of_any a 9 9 wikipedia w rfl (by omega) (bytes_of_all (by decide)) h
  rwa [fix_all] at this
theorem fix_of2 (w : World) (a : Option Addr) (h : Row w a wiki) : Calls Try.prog 12 #[.slice a 4 4] w fun e w' => e = .returned (.int .u32 64618901) ∧ w' = w := by
  have := of_any a 4 4 wiki w rfl (by omega) (bytes_of_all (by decide)) h
  rwa [fix_wiki] at this
theorem fix_of3 (w : World) (a : Option Addr) (h : Row w a pedia) : Calls Try.prog 12 #[.slice a 5 5] w fun e w' => e = .returned (.int .u32 103285252) ∧ w' = w := by
  have := of_any a 5 5 pedia w rfl (by omega) (bytes_of_all (by decide)) h
  rwa [fix_pedia] at this
theorem fix_of0 (w : World) : Calls Try.prog 12 #[.slice none 0 0] w fun e w' => e = .returned (.int .u32 1) ∧ w' = w := by
  have := of_any none 0 0 [] w rfl (by omega) Bytes.nil (.inl rfl)
  rwa [fix_nil] at this
theorem fix_jn (w : World) : Calls Try.prog 17 #[.int .u32 64618901, .int .u32 103285252, .int .i64 5] w fun e w' => e = .returned (.int .u32 300286872) ∧ w' = w := by
  have := join_any 64618901 103285252 5 w (by unfold U32; omega) (by unfold U32; omega) (by omega)
  rwa [fix_join] at this
theorem fix_i1 (w : World) : Calls Try.prog 14 #[.int .u32 1] w fun e w' => e = .returned (.bool true) ∧ w' = w := by
  have := is_any 1 w (by unfold U32; omega)
  rwa [fix_is1] at this
theorem fix_i2 (w : World) : Calls Try.prog 14 #[.int .u32 65521] w fun e w' => e = .returned (.bool false) ∧ w' = w := by
  have := is_any 65521 w (by unfold U32; omega)
  rwa [fix_is2] at this
set_option maxHeartbeats 1000000 in
theorem fixed_any (w : World) : Calls Try.prog 9 #[] w fun e w' => e = .returned (.bool true) ∧ Below w.heap.size w w' := by
  have kc := fun (w : World) (C : Array Value) (n c g : Nat) (hg : g = w.heap.size) => Go.Joins.run_convert_bytes_const_at (P := Try.prog) w 23 5 C n c g hg Try.underlying23 Try.underlying5
  go_enter Try.func9, Try.ntmps9
  go_wp2_with fail
  clear kc
  refine (fix_of1 _ _ (row_arr (by simp) wikipedia _ _ rfl)).mono ?_
  rintro e w1 ⟨rfl, hw1⟩
  have ra : Row w1 (some ⟨w.heap.size, 0, none⟩) wiki := by rw [hw1]; exact ((row_arr rfl wiki _ _ rfl).alloc _).alloc _
  have rb : Row w1 (some ⟨w.heap.size + 1, 0, none⟩) pedia := by rw [hw1]; exact (row_arr (by simp) pedia _ _ rfl).alloc _
  have hB : Below w.heap.size w w1 := by rw [hw1]; exact (((Below.refl _ _).alloc (Nat.le_refl _) _).alloc (by simp) _).alloc (by simp; omega) _
  clear hw1
  have HA : Hid (Row w1 (some ⟨w.heap.size, 0, none⟩) wiki) := ra
  have HB : Hid (Row w1 (some ⟨w.heap.size + 1, 0, none⟩) pedia) := rb
  clear ra rb
  go_wp2_with fail
  refine (fix_of0 _).mono ?_
  rintro e w2 ⟨rfl, rfl⟩
  go_wp2_with fail
  refine (fix_of2 _ _ HA.out).mono ?_
  rintro e w2 ⟨rfl, rfl⟩
  go_wp2_with fail
  refine (fix_of3 _ _ HB.out).mono ?_
  rintro e w2 ⟨rfl, rfl⟩
  go_wp2_with fail
  refine (fix_jn _).mono ?_
  rintro e w2 ⟨rfl, rfl⟩
  go_wp2_with fail
  refine (fix_i1 _).mono ?_
  rintro e w2 ⟨rfl, rfl⟩
  go_wp2_with fail
  refine (fix_i2 _).mono ?_
  rintro e w2 ⟨rfl, rfl⟩
  go_wp2
  go_ret
  exact ⟨rfl, hB⟩
end Go.Proofs.Ytmlondjkjdlcjaa
