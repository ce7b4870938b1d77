/- Four ints, compared as a whole. -/
import Derived.Test.YtgffcdldljgiiaaGreatScF
namespace Go.Proofs.YtgffcdldljgiiaaGreat
open Go.RowKit
theorem Tryz.isArr : Tryz.prog.underlying 339 = some (.array 4 3) := by kernel_rfl
theorem eq_arr4 (a b c d a' b' c' d' : Int) (w : World) : (Op.equalIn 10000 339 (.agg #[.int .i64 a, .int .i64 b, .int .i64 c, .int .i64 d]) (.agg #[.int .i64 a', .int .i64 b', .int .i64 c', .int .i64 d'])).run Tryz.prog w = .ok (a == a' && b == b' && c == c' && d == d') w := by
  have u3 := Tryz.underlying3
  have a3 := Tryz.isAgg3
  have z3 := Tryz.sizeOf3
  rw [show (10000 : Nat) = 9999 + 1 from rfl, Op.equalIn]
  simp only [Sem.run_bind, run_underlying Tryz.isArr, Result.andThen_ok]
  simp only [Std.Legacy.Range.forIn_eq_forIn_range', Std.Legacy.Range.size, Nat.sub_zero, Nat.add_sub_cancel, Nat.div_one, List.range'_succ, List.range'_zero, List.forIn_cons, List.forIn_nil]
  go_simp
  by_cases h1 : a = a' <;> by_cases h2 : b = b' <;> by_cases h3 : c = c' <;> by_cases h4 : d = d' <;> simp [h1, h2, h3, h4]
end Go.Proofs.YtgffcdldljgiiaaGreat
