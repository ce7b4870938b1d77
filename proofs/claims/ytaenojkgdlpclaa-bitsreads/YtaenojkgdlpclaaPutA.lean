import Derived.Test.YtaenojkgdlpclaaFixB
import Derived.Test.YtaenojkgdlpclaaArgB
import Derived.Deep.Slices
namespace Go.Proofs.Ytaenojkgdlpclaa
open Go.RowKit Go.ChangeShapes Go.WideShapes

def clamp (n : Int) : Nat := (min (max n 0) 32).toNat
theorem clamp_le (n : Int) : clamp n ≤ 32 := by unfold clamp; omega
theorem wrap_mod (v : Int) (m : Nat) (hm : m ≤ 32) : IntKind.u64.wrap v % 2 ^ m = v % 2 ^ m := by
  rw [IntKind.wrap_u64]
  have e : (2 : Int) ^ m = ((2 ^ m : Nat) : Int) := by rw [Int.natCast_pow]; rfl
  rw [e, Int.emod_emod_of_dvd]
  have : (2 : Nat) ^ 64 = 2 ^ m * 2 ^ (64 - m) := by rw [← Nat.pow_add]; congr 1; omega
  exact ⟨((2 ^ (64 - m) : Nat) : Int), by rw [← Int.natCast_mul, ← this]; rfl⟩

set_option maxHeartbeats 800000 in
theorem put_no (r : Nat) (v n : Int) (w : World) (hn : n < 1) :
    Calls Try.prog 26 #[.pointer (some ⟨r, 0, none⟩), .int .i64 v, .int .i64 n] w fun e w' => e = .returned (.tuple #[]) ∧ w' = w := by
  generalize hU : IntKind.u64.wrap v = U
  go_enter Try.func26, Try.ntmps26
  go_wp2
  go_loop [6, 7] (fun x t => x = .int .u64 U ∧ t = .int .i64 n) (fun _ _ => 0)
  case atStart => exact ⟨rfl, rfl⟩
  case round =>
    obtain ⟨rfl, rfl⟩ := hrel
    go_wp2
    refine bodyPost_end (results_none rfl _ _ _) rfl ?_
    exact ⟨rfl, rfl⟩
/-- Whatever is put. -/
theorem put_all (r : Nat) (g : Option Nat) (zs : List Int) (W : Int) (count : Nat) (v n : Int) (w : World) (h : WrZ w r g zs count) (hz : Bitz zs W count) (hcb : count ≤ 1000000) :
    Calls Try.prog 26 #[.pointer (some ⟨r, 0, none⟩), .int .i64 v, .int .i64 n] w fun e w' => ∃ zs', Bitz zs' (W + v % 2 ^ clamp n * 2 ^ count) (count + clamp n) ∧ WrPost w r g zs' (count + clamp n) e w' := by
  by_cases hn : n < 1
  · have hc : clamp n = 0 := by unfold clamp; omega
    refine (put_no r v n w hn).mono ?_
    rintro e w' ⟨rfl, rfl⟩
    rw [hc]
    refine ⟨zs, ?_, rfl, g, h, .inl rfl, Fr.refl _ _ _⟩
    simpa using hz
  · have hc : min n 32 = (clamp n : Int) := by unfold clamp; omega
    have := put_yes r g zs W count (clamp n) v n w h hz hcb (by omega) hc
    rw [wrap_mod v _ (clamp_le n)] at this
    exact this

theorem Try.cells45 : Try.prog.cellsOf 45 = 3 := by kernel_rfl
theorem Try.cells3 : Try.prog.cellsOf 3 = 1 := by kernel_rfl
theorem Try.cells4 : Try.prog.cellsOf 4 = 1 := by kernel_rfl
/-- Puts that came in. -/
def PArg (W : World) (a : Option Addr) (len cap : Nat) (F : Nat → Int × Int × Bool) : Prop :=
  len ≤ cap ∧ cap ≤ maxLen ∧ (0 < len → ∃ b off, a = some ⟨b, off, none⟩ ∧ ∀ i, i < len → W.cell? ⟨b, off + i * 3, none⟩ = some (.int .i64 (F i).1) ∧ W.cell? ⟨b, off + i * 3 + 1, none⟩ = some (.int .i64 (F i).2.1) ∧ W.cell? ⟨b, off + i * 3 + 2, none⟩ = some (.bool (F i).2.2))

theorem open_puts {H : Type} {enc : TypeId × Value → H} {W : World} {a : Option Addr} {len cap : Nat} {d : DataW H} {p : List MemPlace}
    (h0 : DataW.Trod enc Try.prog W 0 (fun _ => true) true 41 (.slice a len cap) d p) : ∃ F, PArg W a len cap F := by
  obtain ⟨fuel, hf⟩ := h0
  rcases Deep.open_slice Try.underlying41 hf with ⟨hcs, _⟩ | ⟨x, l, c, m, n, D, Pl, hcs, _, hl, hm, hmm, _, hx⟩
  · simp [Value.cells] at hcs
    obtain ⟨rfl, rfl, rfl⟩ := hcs
    exact ⟨fun _ => (0, 0, false), Nat.le_refl _, by unfold maxLen; omega, fun h => absurd h (by omega)⟩
  · simp [Value.cells] at hcs
    obtain ⟨rfl, rfl, rfl⟩ := hcs
    have hml : len ≤ m := by rw [hmm]; simp; exact hl
    have each : ∀ i, i < len → ∃ q : Int × Int × Bool, W.cell? (x.add (i * 3)) = some (.int .i64 q.1) ∧ W.cell? (x.add (i * 3 + 1)) = some (.int .i64 q.2.1) ∧ W.cell? (x.add (i * 3 + 2)) = some (.bool q.2.2) := by
      intro i hi
      obtain ⟨cs', h1, h2⟩ := hx i (by omega)
      rw [Try.cells45] at h1
      obtain ⟨_, hlen, hcell⟩ := World.cells?_some h1
      obtain ⟨xs, k, hk, hxy, _, hxl, hff⟩ := DataW.trod_struct Try.underlying45 h2
      match xs, hxl, cs', hlen with
      | [y0, y1, y2], _, [v0, v1, v2], _ =>
        have g0 := hff 0 _ rfl
        have g1 := hff 1 _ rfl
        have g2 := hff 2 _ rfl
        simp [Try.cells3, Try.cells4] at g0 g1 g2
        obtain ⟨n0, e0, _⟩ := DataW.trod_int Try.underlying3 g0
        obtain ⟨n1, e1, _⟩ := DataW.trod_int Try.underlying3 g1
        obtain ⟨b2, e2, _⟩ := DataW.trod_bool Try.underlying4 g2
        simp at e0 e1 e2
        subst e0 e1 e2
        have c0 := hcell 0 (by omega)
        have c1 := hcell 1 (by omega)
        have c2 := hcell 2 (by omega)
        rw [Deep.add_add] at c0 c1 c2
        exact ⟨(n0, n1, b2), by simpa using c0, by simpa using c1, by simpa using c2⟩
    obtain ⟨F, hF⟩ := Deep.choose_lt each
    refine ⟨F, hl, hm, fun hpos => ?_⟩
    obtain ⟨b, off, spot⟩ := x
    have hc := (hF 0 hpos).1
    have hspot : spot = none := by simpa [Addr.add] using World.cell?_spot hc
    subst hspot
    refine ⟨b, off, rfl, fun i hi => ?_⟩
    have := hF i hi
    simpa [Addr.add_lit, Nat.add_assoc] using this
end Go.Proofs.Ytaenojkgdlpclaa
