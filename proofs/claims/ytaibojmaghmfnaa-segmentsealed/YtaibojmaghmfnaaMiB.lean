/- The document's Same, of messages that say different things. -/
import Derived.Test.YtaibojmaghmfnaaMiA
namespace Go.Proofs.Ytaibojmaghmfnaa
open Go.RowKit
set_option maxHeartbeats 12800000 in
theorem rsame_no (m l : Ms) (D D' : List Int) (w : World) (hs : sameM m l = false) (h1 : m.k = l.k) (h2 : m.bo = l.bo) (hd : D.length = m.dn) (hd' : D'.length = l.dn) (bd : Bytes D) (bd' : Bytes D') (d1 : Row w m.da D) (d2 : Row w l.da D') (hr : m.rn ≤ 70368744177664 ∧ l.rn ≤ 70368744177664) :
    Calls Try.prog 12 #[m.V, l.V] w fun e w' => e = .returned (.bool false) ∧ Below w.heap.size w w' := by
  have HQ : Hid (QT w m.c12 l.c12 _) := QT.box w m.c12 l.c12
  have c1 := conv_row (c := m.dc) hd (d1.old HQ.out.1)
  have c2 := conv_row (c := l.dc) hd' (d2.old HQ.out.1)
  have HDn : Hid (m.dn ≠ l.dn → ((strOfNums D).toList == (strOfNums D').toList) = false) := fun hne => by
    rw [Bool.eq_false_iff]
    intro h
    have := str_inj bd bd' (by simpa using h)
    rw [this] at hd
    exact hne (by omega)
  generalize strOfNums D = s at *
  generalize strOfNums D' = s' at *
  clear hd hd' d1 d2 bd bd'
  obtain ⟨k, bo, fi, su, si, ap, bd, ix, pa, co, ra, rn, rc, da, dn, dc⟩ := m
  obtain ⟨k', bo', fi', su', si', ap', bd', ix', pa', co', ra', rn', rc', da', dn', dc'⟩ := l
  unfold sameM at hs
  unfold Ms.V at *
  unfold Ms.c12 at *
  simp only at *
  subst h1 h2
  obtain ⟨r1, r2⟩ := hr
  obtain ⟨w2, hw2⟩ : ∃ w2, (w.alloc (.cells #[.int .i64 k, .int .u32 bo, .int .i64 fi, .int .u32 su, .int .i64 si, .int .i64 ap, .int .i64 bd, .int .i64 ix, .int .i64 pa, .int .i64 co, .slice ra rn rc, .slice da dn dc] 26)).alloc (.cells #[.int .i64 k, .int .u32 bo, .int .i64 fi', .int .u32 su', .int .i64 si', .int .i64 ap', .int .i64 bd', .int .i64 ix', .int .i64 pa', .int .i64 co', .slice ra' rn' rc', .slice da' dn' dc'] 26) = w2 := ⟨_, rfl⟩
  rw [hw2] at HQ c1 c2
  cases q0 : (fi == fi')
  ·
    have n0 : (fi != fi') = true := by rw [bne, q0]; rfl
    clear hs
    go_enter Try.func12, Try.ntmps12
    go_upto_region 1 with fail
    clear hw2
    obtain ⟨fa0, fa1, fa2, fa3, fa4, fa5, fa6, fa7, fa8, fa9, fa10, fa11⟩ := twelve_cells HQ.out.2.1
    obtain ⟨fb0, fb1, fb2, fb3, fb4, fb5, fb6, fb7, fb8, fb9, fb10, fb11⟩ := twelve_cells HQ.out.2.2
    go_wp2
    go_ret
    exact ⟨rfl, HQ.out.1⟩
  ·
    have n0 : (fi != fi') = false := by rw [bne, q0]; rfl
    cases q1 : (su == su')
    ·
      have n1 : (su != su') = true := by rw [bne, q1]; rfl
      clear hs
      go_enter Try.func12, Try.ntmps12
      go_upto_region 1 with fail
      clear hw2
      obtain ⟨fa0, fa1, fa2, fa3, fa4, fa5, fa6, fa7, fa8, fa9, fa10, fa11⟩ := twelve_cells HQ.out.2.1
      obtain ⟨fb0, fb1, fb2, fb3, fb4, fb5, fb6, fb7, fb8, fb9, fb10, fb11⟩ := twelve_cells HQ.out.2.2
      go_wp2
      go_ret
      exact ⟨rfl, HQ.out.1⟩
    ·
      have n1 : (su != su') = false := by rw [bne, q1]; rfl
      cases q2 : (si == si')
      ·
        have n2 : (si != si') = true := by rw [bne, q2]; rfl
        clear hs
        go_enter Try.func12, Try.ntmps12
        go_upto_region 1 with fail
        clear hw2
        obtain ⟨fa0, fa1, fa2, fa3, fa4, fa5, fa6, fa7, fa8, fa9, fa10, fa11⟩ := twelve_cells HQ.out.2.1
        obtain ⟨fb0, fb1, fb2, fb3, fb4, fb5, fb6, fb7, fb8, fb9, fb10, fb11⟩ := twelve_cells HQ.out.2.2
        go_wp2
        go_ret
        exact ⟨rfl, HQ.out.1⟩
      ·
        have n2 : (si != si') = false := by rw [bne, q2]; rfl
        cases q3 : (ap == ap')
        ·
          have n3 : (ap != ap') = true := by rw [bne, q3]; rfl
          clear hs
          go_enter Try.func12, Try.ntmps12
          go_upto_region 1 with fail
          clear hw2
          obtain ⟨fa0, fa1, fa2, fa3, fa4, fa5, fa6, fa7, fa8, fa9, fa10, fa11⟩ := twelve_cells HQ.out.2.1
          obtain ⟨fb0, fb1, fb2, fb3, fb4, fb5, fb6, fb7, fb8, fb9, fb10, fb11⟩ := twelve_cells HQ.out.2.2
          go_wp2
          go_ret
          exact ⟨rfl, HQ.out.1⟩
        ·
          have n3 : (ap != ap') = false := by rw [bne, q3]; rfl
          cases q4 : (bd == bd')
          ·
            have n4 : (bd != bd') = true := by rw [bne, q4]; rfl
            clear hs
            go_enter Try.func12, Try.ntmps12
            go_upto_region 1 with fail
            clear hw2
            obtain ⟨fa0, fa1, fa2, fa3, fa4, fa5, fa6, fa7, fa8, fa9, fa10, fa11⟩ := twelve_cells HQ.out.2.1
            obtain ⟨fb0, fb1, fb2, fb3, fb4, fb5, fb6, fb7, fb8, fb9, fb10, fb11⟩ := twelve_cells HQ.out.2.2
            go_wp2
            go_ret
            exact ⟨rfl, HQ.out.1⟩
          ·
            have n4 : (bd != bd') = false := by rw [bne, q4]; rfl
            cases q5 : (ix == ix')
            ·
              have n5 : (ix != ix') = true := by rw [bne, q5]; rfl
              clear hs
              go_enter Try.func12, Try.ntmps12
              go_upto_region 1 with fail
              clear hw2
              obtain ⟨fa0, fa1, fa2, fa3, fa4, fa5, fa6, fa7, fa8, fa9, fa10, fa11⟩ := twelve_cells HQ.out.2.1
              obtain ⟨fb0, fb1, fb2, fb3, fb4, fb5, fb6, fb7, fb8, fb9, fb10, fb11⟩ := twelve_cells HQ.out.2.2
              go_wp2
              go_ret
              exact ⟨rfl, HQ.out.1⟩
            ·
              have n5 : (ix != ix') = false := by rw [bne, q5]; rfl
              cases q6 : (pa == pa')
              ·
                have n6 : (pa != pa') = true := by rw [bne, q6]; rfl
                clear hs
                go_enter Try.func12, Try.ntmps12
                go_upto_region 1 with fail
                clear hw2
                obtain ⟨fa0, fa1, fa2, fa3, fa4, fa5, fa6, fa7, fa8, fa9, fa10, fa11⟩ := twelve_cells HQ.out.2.1
                obtain ⟨fb0, fb1, fb2, fb3, fb4, fb5, fb6, fb7, fb8, fb9, fb10, fb11⟩ := twelve_cells HQ.out.2.2
                go_wp2
                go_ret
                exact ⟨rfl, HQ.out.1⟩
              ·
                have n6 : (pa != pa') = false := by rw [bne, q6]; rfl
                cases q7 : (co == co')
                ·
                  have n7 : (co != co') = true := by rw [bne, q7]; rfl
                  clear hs
                  go_enter Try.func12, Try.ntmps12
                  go_upto_region 1 with fail
                  clear hw2
                  obtain ⟨fa0, fa1, fa2, fa3, fa4, fa5, fa6, fa7, fa8, fa9, fa10, fa11⟩ := twelve_cells HQ.out.2.1
                  obtain ⟨fb0, fb1, fb2, fb3, fb4, fb5, fb6, fb7, fb8, fb9, fb10, fb11⟩ := twelve_cells HQ.out.2.2
                  go_wp2
                  go_ret
                  exact ⟨rfl, HQ.out.1⟩
                ·
                  have n7 : (co != co') = false := by rw [bne, q7]; rfl
                  cases q8 : ((rn : Int) == (rn' : Int))
                  ·
                    have n8 : ((rn : Int) != (rn' : Int)) = true := by rw [bne, q8]; rfl
                    clear hs
                    go_enter Try.func12, Try.ntmps12
                    go_upto_region 1 with fail
                    clear hw2
                    obtain ⟨fa0, fa1, fa2, fa3, fa4, fa5, fa6, fa7, fa8, fa9, fa10, fa11⟩ := twelve_cells HQ.out.2.1
                    obtain ⟨fb0, fb1, fb2, fb3, fb4, fb5, fb6, fb7, fb8, fb9, fb10, fb11⟩ := twelve_cells HQ.out.2.2
                    go_wp2
                    go_ret
                    exact ⟨rfl, HQ.out.1⟩
                  ·
                    have n8 : ((rn : Int) != (rn' : Int)) = false := by rw [bne, q8]; rfl
                    have hdn : dn ≠ dn' := by
                      intro e
                      rw [q0, q1, q2, q3, q4, q5, q6, q7, q8, e] at hs
                      simp at hs
                    have hstr := HDn.out hdn
                    clear hdn
                    clear hs
                    go_enter Try.func12, Try.ntmps12
                    go_upto_region 1 with fail
                    clear hw2
                    obtain ⟨fa0, fa1, fa2, fa3, fa4, fa5, fa6, fa7, fa8, fa9, fa10, fa11⟩ := twelve_cells HQ.out.2.1
                    obtain ⟨fb0, fb1, fb2, fb3, fb4, fb5, fb6, fb7, fb8, fb9, fb10, fb11⟩ := twelve_cells HQ.out.2.2
                    go_wp2
                    go_ret
                    exact ⟨rfl, HQ.out.1⟩
end Go.Proofs.Ytaibojmaghmfnaa
