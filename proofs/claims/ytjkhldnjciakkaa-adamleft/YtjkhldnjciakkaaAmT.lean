/- Are two rows of lines the same? -/
import Derived.Test.YtjkhldnjciakkaaAmS
namespace Go.Proofs.Ytjkhldnjciakkaa
open Go.RowKit
theorem LsR.at {W : World} {a : Option Addr} {es : List Le} (h : LsR W a es) {i : Nat} {e : Le} (hi : es[i]? = some e) : ∃ b off, a = some ⟨b, off, none⟩ ∧ W.cell? ⟨b, off + i * 2, none⟩ = some (.int .i64 e.p) ∧ W.cell? ⟨b, off + i * 2 + 1, none⟩ = some (.slice e.a e.n e.c) ∧ e.L.length = 2 * e.n ∧ e.n ≤ 2048 ∧ IRow W e.a e.L := by
  obtain ⟨h1, h2⟩ := h
  have hm := List.mem_of_getElem? hi
  rcases h2 with rfl | ⟨b, off, rfl, hc⟩
  · simp at hi
  · exact ⟨b, off, rfl, (hc i e hi).1, (hc i e hi).2, h1 e hm⟩
theorem LsR.old {W W' : World} {a : Option Addr} {es : List Le} (h : LsR W a es) (hb : Below W.heap.size W W') : LsR W' a es := by
  obtain ⟨h1, h2⟩ := h
  refine ⟨fun e he => ⟨(h1 e he).1, (h1 e he).2.1, (h1 e he).2.2.old hb⟩, h2.imp id ?_⟩
  rintro ⟨b, off, rfl, hc⟩
  exact ⟨b, off, rfl, fun i e he => ⟨(World.cell?_of_block (a := ⟨b, off + i * 2, none⟩) (hb.block b (cell_lt (hc i e he).1))).trans (hc i e he).1, (World.cell?_of_block (a := ⟨b, off + (i * 2 + 1), none⟩) (hb.block b (cell_lt (hc i e he).1))).trans (hc i e he).2⟩⟩
theorem LsR.same {W W' : World} {a : Option Addr} {es : List Le} (h : LsR W a es) (hh : W'.heap = W.heap) : LsR W' a es := by
  have hc : ∀ x, W'.cell? x = W.cell? x := fun x => by unfold World.cell?; rw [hh]
  obtain ⟨h1, h2⟩ := h
  refine ⟨fun e he => ⟨(h1 e he).1, (h1 e he).2.1, ?_⟩, h2.imp id ?_⟩
  · rcases (h1 e he).2.2 with q | ⟨b, off, q1, q2⟩
    · exact .inl q
    · exact .inr ⟨b, off, q1, fun i hi => (hc _).trans (q2 i hi)⟩
  · rintro ⟨b, off, rfl, q⟩
    exact ⟨b, off, rfl, fun i e he => ⟨(hc _).trans (q i e he).1, (hc _).trans (q i e he).2⟩⟩
theorem IRow.two {W : World} {a : Option Addr} {l : List Int} (h : IRow W a l) {n k : Nat} (hl : l.length = 2 * n) (hk : k < n) : ∃ b off, a = some ⟨b, off, none⟩ ∧ W.cell? ⟨b, off + k * 2, none⟩ = some (.int .i64 (l[k * 2]?.getD 0)) ∧ W.cell? ⟨b, off + k * 2 + 1, none⟩ = some (.int .i64 (l[k * 2 + 1]?.getD 0)) := by
  rcases h with h | ⟨b, off, rfl, hc⟩
  · subst h; simp at hl; omega
  · exact ⟨b, off, rfl, hc (k * 2) (by omega), hc (k * 2 + 1) (by omega)⟩
def SmW (w wr : World) : Prop := wr.heap = w.heap ∧ wr.os = w.os ∧ wr.tape = w.tape ∧ wr.output = w.output
theorem SmW.below {w wr : World} (h : SmW w wr) : Below w.heap.size w wr := ⟨h.2.1, h.2.2.1, h.2.2.2, by rw [h.1]; exact Nat.le_refl _, fun k _ => by rw [h.1]⟩
theorem SmW.drew {w wr : World} (h : SmW w wr) (n : Nat) : SmW w (wr.drewN n) := h
set_option maxHeartbeats 3200000 in
set_option maxRecDepth 20000 in
theorem rsame_any (a a' : Option Addr) (N c c' : Nat) (es es' : List Le) (w : World) (hn : es.length = N) (h : LsR w a es) (h' : LsR w a' es') (hk : es.map Le.key = es'.map Le.key) (hN : N ≤ 100000) :
    Calls Try.prog 12 #[.slice a N c, .slice a' N c'] w fun e w' => e = .returned (.bool true) ∧ Below w.heap.size w w' := by
  have HH : Hid (LsR w a es ∧ LsR w a' es' ∧ es.map Le.key = es'.map Le.key ∧ es.length = N) := ⟨h, h', hk, hn⟩
  have H0 : Hid (SmW w w) := ⟨rfl, rfl, rfl, rfl⟩
  clear h h' hk hn
  go_enter Try.func12, Try.ntmps12
  go_wp2
  go_loopw [5, 6, 14] (fun _ _ v wr => ∃ i : Nat, i ≤ N ∧ v = .int .i64 i ∧ Hid (SmW w wr)) (fun _ _ v _ => N - (intOf v).toNat)
  case atStart => exact ⟨0, Nat.zero_le _, rfl, H0⟩
  case round =>
    clear H0
    obtain ⟨i, hi, rfl, HS⟩ := hrel
    by_cases hlt : i < N
    · obtain ⟨e, he⟩ : ∃ e, es[i]? = some e := ⟨_, List.getElem?_eq_getElem (by rw [HH.out.2.2.2]; exact hlt)⟩
      have hl2 : es'.length = N := by have := congrArg List.length HH.out.2.2.1; rw [List.length_map, List.length_map] at this; rw [← this]; exact HH.out.2.2.2
      obtain ⟨e', he'⟩ : ∃ e', es'[i]? = some e' := ⟨_, List.getElem?_eq_getElem (by rw [hl2]; exact hlt)⟩
      have hkey : e.key = e'.key := by
        have := congrArg (fun l => l[i]?) HH.out.2.2.1
        simp only [List.getElem?_map, he, he', Option.map_some, Option.some.injEq] at this
        exact this
      obtain ⟨b, off, rfl, k1, k2, k3, k4, k5⟩ := (HH.out.1.same HS.out.1).at he
      obtain ⟨b', off', rfl, j1, j2, j3, j4, j5⟩ := (HH.out.2.1.same HS.out.1).at he'
      obtain ⟨P, A, M, C, L⟩ := e
      obtain ⟨P', A', M', C', L'⟩ := e'
      unfold Le.key at hkey
      simp only [Prod.mk.injEq] at hkey k1 k2 k3 k4 k5 j1 j2 j3 j4 j5
      obtain ⟨rfl, rfl⟩ := hkey
      obtain rfl : M = M' := by omega
      have HR : Hid (IRow wr A L ∧ IRow wr A' L ∧ L.length = 2 * M) := ⟨k5, j5, k3⟩
      clear k3 k5 j3 j4 j5 he he' hl2
      go_wp2
      go_quiet (fail)
      have HS2 : Hid (SmW w (wr.drewN nq)) := HS.out.drew nq
      have HR2 : Hid (IRow (wr.drewN nq) A L ∧ IRow (wr.drewN nq) A' L ∧ L.length = 2 * M) := HR.out
      have k1' : (wr.drewN nq).cell? ⟨b, off + i * 2, none⟩ = some (.int .i64 P) := k1
      have k2' : (wr.drewN nq).cell? ⟨b, off + i * 2 + 1, none⟩ = some (.slice A M C) := k2
      have j2' : (wr.drewN nq).cell? ⟨b', off' + i * 2 + 1, none⟩ = some (.slice A' M C') := j2
      clear HS HR k1 k2 j1 j2
      generalize wr.drewN nq = w2 at *
      go_wp2
      go_loopw [6, 49] (fun _ v wz => ∃ k : Nat, k ≤ M ∧ v = .int .i64 k ∧ Hid (SmW w2 wz)) (fun _ v _ => M - (intOf v).toNat)
      case atStart => exact ⟨0, Nat.zero_le _, rfl, ⟨rfl, rfl, rfl, rfl⟩⟩
      case round =>
        obtain ⟨k, hk, rfl, HZ⟩ := hrel
        by_cases hkl : k < M
        · have hcz : ∀ x, wr.cell? x = w2.cell? x := fun x => by unfold World.cell?; rw [HZ.out.1]
          have k2z := (hcz _).trans k2'
          have j2z := (hcz _).trans j2'
          obtain ⟨g, o, rfl, m1, m2⟩ := HR2.out.1.two HR2.out.2.2 hkl
          obtain ⟨g', o', rfl, n1, n2⟩ := HR2.out.2.1.two HR2.out.2.2 hkl
          have m1z := (hcz _).trans m1
          have m2z := (hcz _).trans m2
          have n1z := (hcz _).trans n1
          have n2z := (hcz _).trans n2
          clear hcz m1 m2 n1 n2 k1' k2' j2'
          generalize L[k * 2]?.getD 0 = X at *
          generalize L[k * 2 + 1]?.getD 0 = Y at *
          go_wp2
          go_quiet (fail)
          go_wp2
          go_roundw
          case rel => exact ⟨k + 1, hkl, by go_num, HZ.out.drew nq⟩
          case measure => simp [intOf]; omega
        · obtain rfl : k = M := by omega
          have HE : Hid (SmW w wr) := ⟨HZ.out.1.trans HS2.out.1, HZ.out.2.1.trans HS2.out.2.1, HZ.out.2.2.1.trans HS2.out.2.2.1, HZ.out.2.2.2.trans HS2.out.2.2.2⟩
          clear HZ HS2 k1' k2' j2'
          go_wp2
          go_roundw
          case rel => exact ⟨i + 1, hlt, by go_num, HE⟩
          case measure => simp [intOf]; omega
    · go_wp2
      go_ret
      exact ⟨rfl, HS.out.below⟩
end Go.Proofs.Ytjkhldnjciakkaa
