/- Messages as values; the program's small functions of them. -/
import Derived.Test.YtaibojmaghmfnaaMgK
import Derived.Test.YtaibojmaghmfnaaMgB
namespace Go.Proofs.Ytaibojmaghmfnaa
open Go.RowKit
/-- A message's twelve cells. -/
structure Ms where
  k : Int
  bo : Int
  fi : Int
  su : Int
  si : Int
  ap : Int
  bd : Int
  ix : Int
  pa : Int
  co : Int
  ra : Option Addr
  rn : Nat
  rc : Nat
  da : Option Addr
  dn : Nat
  dc : Nat
def Ms.c12 (m : Ms) : Array Value := #[.int .i64 m.k, .int .u32 m.bo, .int .i64 m.fi, .int .u32 m.su, .int .i64 m.si, .int .i64 m.ap, .int .i64 m.bd, .int .i64 m.ix, .int .i64 m.pa, .int .i64 m.co, .slice m.ra m.rn m.rc, .slice m.da m.dn m.dc]
def Ms.V (m : Ms) : Value := .agg m.c12
theorem twelve_cells {w : World} {b : Nat} {v0 v1 v2 v3 v4 v5 v6 v7 v8 v9 v10 v11 : Value} {t : TypeId} (h : w.heap[b]? = some (.cells #[v0, v1, v2, v3, v4, v5, v6, v7, v8, v9, v10, v11] t (0, 0))) : w.cell? ⟨b, 0, none⟩ = some v0 ∧ w.cell? ⟨b, 1, none⟩ = some v1 ∧ w.cell? ⟨b, 2, none⟩ = some v2 ∧ w.cell? ⟨b, 3, none⟩ = some v3 ∧ w.cell? ⟨b, 4, none⟩ = some v4 ∧ w.cell? ⟨b, 5, none⟩ = some v5 ∧ w.cell? ⟨b, 6, none⟩ = some v6 ∧ w.cell? ⟨b, 7, none⟩ = some v7 ∧ w.cell? ⟨b, 8, none⟩ = some v8 ∧ w.cell? ⟨b, 9, none⟩ = some v9 ∧ w.cell? ⟨b, 10, none⟩ = some v10 ∧ w.cell? ⟨b, 11, none⟩ = some v11 := by
  refine ⟨?_, ?_, ?_, ?_, ?_, ?_, ?_, ?_, ?_, ?_, ?_, ?_⟩ <;> simp [World.cell?, h]
/-- Ranges in memory. -/
def gx (G : List (Int × Int)) (i : Nat) : Int := (G[i]?.getD (0, 0)).1
def gy (G : List (Int × Int)) (i : Nat) : Int := (G[i]?.getD (0, 0)).2
def RgR (w : World) (a : Option Addr) (G : List (Int × Int)) : Prop :=
  G = [] ∨ ∃ b off, a = some ⟨b, off, none⟩ ∧ ∀ i, i < G.length → w.cell? ⟨b, off + i * 2, none⟩ = some (.int .i64 (gx G i)) ∧ w.cell? ⟨b, off + i * 2 + 1, none⟩ = some (.int .i64 (gy G i))
theorem RgR.old {w w' : World} {a : Option Addr} {G : List (Int × Int)} (h : RgR w a G) (hb : Below w.heap.size w w') : RgR w' a G := by
  rcases h with h | ⟨b, off, rfl, hc⟩
  · exact .inl h
  · exact .inr ⟨b, off, rfl, fun i hi => ⟨(World.cell?_of_block (a := ⟨b, off + i * 2, none⟩) (hb.block _ (cell_lt (hc i hi).1))).trans (hc i hi).1, (World.cell?_of_block (a := ⟨b, off + i * 2 + 1, none⟩) (hb.block _ (cell_lt (hc i hi).2))).trans (hc i hi).2⟩⟩
/-- What is known of a message. -/
structure MsM (w : World) (m : Ms) (G : List (Int × Int)) (D : List Int) : Prop where
  g : RgR w m.ra G
  gn : G.length = m.rn
  d : BOk w m.da m.dn m.dc D
  bo : 0 ≤ m.bo ∧ m.bo < 4294967296
  su : 0 ≤ m.su ∧ m.su < 4294967296
  rb : m.rn ≤ 70368744177664
theorem MsM.old {w w' : World} {m : Ms} {G : List (Int × Int)} {D : List Int} (h : MsM w m G D) (hb : Below w.heap.size w w') : MsM w' m G D := ⟨h.g.old hb, h.gn, h.d.old hb, h.bo, h.su, h.rb⟩
/-- The block of a boxed message. -/
def QM (w : World) (c : Array Value) (w' : World) : Prop := Below w.heap.size w w' ∧ w'.heap[w.heap.size]? = some (.cells c 26 (0, 0))
theorem heap_alloc_newM (w : World) (o : Obj) : (w.alloc o).heap[w.heap.size]? = some o := by show (w.heap.push o)[w.heap.size]? = some o; simp
theorem QM.box (w : World) (c : Array Value) : QM w c (w.alloc (.cells c 26)) := ⟨(Below.refl _ w).alloc (Nat.le_refl _) _, heap_alloc_newM w _⟩
theorem QM.old {w : World} {c : Array Value} {w1 w2 : World} (h : QM w c w1) (hb : Below w1.heap.size w1 w2) : QM w c w2 := ⟨h.1.trans (hb.mono h.1.size), (hb.block _ (lt_of_block h.2)).trans h.2⟩
def wi (v lo hi : Int) : Bool := decide (lo ≤ v ∧ v ≤ hi)
set_option maxHeartbeats 400000 in
theorem swithin_any (v lo hi : Int) (w : World) : Calls Try.prog 57 #[.int .i64 v, .int .i64 lo, .int .i64 hi] w fun e w' => e = .returned (.bool (wi v lo hi)) ∧ w' = w := by
  by_cases h1 : lo ≤ v
  · by_cases h2 : v ≤ hi
    · rw [show wi v lo hi = true from decide_eq_true ⟨h1, h2⟩]
      go_enter Try.func57, Try.ntmps57
      go_wp2
      go_ret
      exact ⟨by simp, rfl⟩
    · rw [show wi v lo hi = false from decide_eq_false (fun h => h2 h.2)]
      go_enter Try.func57, Try.ntmps57
      go_wp2
      go_ret
      exact ⟨by simp, rfl⟩
  · rw [show wi v lo hi = false from decide_eq_false (fun h => h1 h.1)]
    go_enter Try.func57, Try.ntmps57
    go_wp2
    go_ret
    exact ⟨by simp, rfl⟩
set_option maxHeartbeats 400000 in
theorem isFile_any (n : Int) (w : World) : Calls Try.prog 56 #[.int .i64 n] w fun e w' => e = .returned (.bool (wi n 0 15)) ∧ w' = w := by
  go_enter Try.func56, Try.ntmps56
  go_wp2_with (go_at_call 57; refine (swithin_any _ _ _ _).mono ?_; rintro e w' ⟨rfl, rfl⟩)
  go_ret
  exact ⟨rfl, rfl⟩
set_option maxHeartbeats 400000 in
theorem isIndex_any (n : Int) (w : World) : Calls Try.prog 66 #[.int .i64 n] w fun e w' => e = .returned (.bool (wi n 0 2147483647)) ∧ w' = w := by
  go_enter Try.func66, Try.ntmps66
  go_wp2_with (go_at_call 57; refine (swithin_any _ _ _ _).mono ?_; rintro e w' ⟨rfl, rfl⟩)
  go_ret
  exact ⟨rfl, rfl⟩
def sameM (m l : Ms) : Bool := (m.fi == l.fi) && (m.su == l.su) && (m.si == l.si) && (m.ap == l.ap) && (m.bd == l.bd) && (m.ix == l.ix) && (m.pa == l.pa) && (m.co == l.co) && ((m.rn : Int) == (l.rn : Int)) && ((m.dn : Int) == (l.dn : Int))
set_option maxHeartbeats 6400000 in
theorem same_any_m (m l : Ms) (w : World) (hr : m.rn ≤ 70368744177664 ∧ l.rn ≤ 70368744177664) (hd : m.dn ≤ 140737488355328 ∧ l.dn ≤ 140737488355328) : Calls Try.prog 40 #[m.V, l.V] w fun e w' => e = .returned (.bool (sameM m l)) ∧ Below w.heap.size w w' := by
  obtain ⟨k, bo, fi, su, si, ap, bd, ix, pa, co, ra, rn, rc, da, dn, dc⟩ := m
  obtain ⟨k', bo', fi', su', si', ap', bd', ix', pa', co', ra', rn', rc', da', dn', dc'⟩ := l
  unfold Ms.V Ms.c12 sameM
  simp only at *
  obtain ⟨r1, r2⟩ := hr
  obtain ⟨d1, d2⟩ := hd
  cases h0 : (fi == fi')
  ·
    go_enter Try.func40, Try.ntmps40
    go_wp2
    go_ret
    exact ⟨by simp, ((Below.refl _ _).alloc (Nat.le_refl _) _).alloc (by simp) _⟩
  ·
    cases h1 : (su == su')
    ·
      go_enter Try.func40, Try.ntmps40
      go_wp2
      go_ret
      exact ⟨by simp, ((Below.refl _ _).alloc (Nat.le_refl _) _).alloc (by simp) _⟩
    ·
      cases h2 : (si == si')
      ·
        go_enter Try.func40, Try.ntmps40
        go_wp2
        go_ret
        exact ⟨by simp, ((Below.refl _ _).alloc (Nat.le_refl _) _).alloc (by simp) _⟩
      ·
        cases h3 : (ap == ap')
        ·
          go_enter Try.func40, Try.ntmps40
          go_wp2
          go_ret
          exact ⟨by simp, ((Below.refl _ _).alloc (Nat.le_refl _) _).alloc (by simp) _⟩
        ·
          cases h4 : (bd == bd')
          ·
            go_enter Try.func40, Try.ntmps40
            go_wp2
            go_ret
            exact ⟨by simp, ((Below.refl _ _).alloc (Nat.le_refl _) _).alloc (by simp) _⟩
          ·
            cases h5 : (ix == ix')
            ·
              go_enter Try.func40, Try.ntmps40
              go_wp2
              go_ret
              exact ⟨by simp, ((Below.refl _ _).alloc (Nat.le_refl _) _).alloc (by simp) _⟩
            ·
              cases h6 : (pa == pa')
              ·
                go_enter Try.func40, Try.ntmps40
                go_wp2
                go_ret
                exact ⟨by simp, ((Below.refl _ _).alloc (Nat.le_refl _) _).alloc (by simp) _⟩
              ·
                cases h7 : (co == co')
                ·
                  go_enter Try.func40, Try.ntmps40
                  go_wp2
                  go_ret
                  exact ⟨by simp, ((Below.refl _ _).alloc (Nat.le_refl _) _).alloc (by simp) _⟩
                ·
                  cases h8 : ((rn : Int) == (rn' : Int))
                  ·
                    go_enter Try.func40, Try.ntmps40
                    go_wp2
                    go_ret
                    exact ⟨by simp, ((Below.refl _ _).alloc (Nat.le_refl _) _).alloc (by simp) _⟩
                  ·
                    cases h9 : ((dn : Int) == (dn' : Int))
                    ·
                      go_enter Try.func40, Try.ntmps40
                      go_wp2
                      go_ret
                      exact ⟨by simp, ((Below.refl _ _).alloc (Nat.le_refl _) _).alloc (by simp) _⟩
                    ·
                      go_enter Try.func40, Try.ntmps40
                      go_wp2
                      go_ret
                      exact ⟨by simp, ((Below.refl _ _).alloc (Nat.le_refl _) _).alloc (by simp) _⟩
end Go.Proofs.Ytaibojmaghmfnaa
