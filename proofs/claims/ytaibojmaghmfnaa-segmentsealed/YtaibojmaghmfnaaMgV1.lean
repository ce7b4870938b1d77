/- parse: the program. -/
import Derived.Test.YtaibojmaghmfnaaMgV
namespace Go.Proofs.Ytaibojmaghmfnaa
open Go.RowKit
theorem bS_bytes {st : St} (h : Bytes (stZ st)) (n : Nat) : Bytes (stZ (bS n st)) := by
  cases st with
  | ok z =>
    by_cases hn : z.length < n
    · rw [bS_short hn]; exact Bytes.nil
    · rw [bS_more hn]; exact Bytes.drop h n
  | error e => exact Bytes.nil
theorem tk_su (k : Int) {st : St} (h : Bytes (stZ st)) : 0 ≤ (tkN k st).su ∧ (tkN k st).su < 4294967296 := by
  have h4 := bN_byte (bS_bytes h 1) 4
  simp at h4
  unfold tkN
  split
  · exact h4
  · split
    · exact h4
    · split
      · exact ⟨Int.le_refl _, (by show (0 : Int) < 4294967296; omega)⟩
      · split
        · exact ⟨Int.le_refl _, (by show (0 : Int) < 4294967296; omega)⟩
        · exact ⟨Int.le_refl _, (by show (0 : Int) < 4294967296; omega)⟩
theorem tk_G (k : Int) {st : St} (h : Bytes (stZ st)) : (tkN k st).G.length ≤ 255 := by
  have h1 := bN_byte (bS_bytes h 4) 1
  simp at h1
  unfold tkN
  split
  · exact Nat.zero_le _
  · split
    · exact Nat.zero_le _
    · split
      · exact Nat.zero_le _
      · split
        · show (rdG (akN st) (bS 1 (bS 4 st))).1.length ≤ 255
          rw [rdG_len]; unfold akN; omega
        · exact Nat.zero_le _
theorem cs_new {w w' : World} {zs : List Int} {e : Ending} (hb : Bytes zs) (hl : zs.length ≤ 140737488355328) (h : NewCur w zs e w') : ∃ c, e = .returned (.pointer (some ⟨c, 0, none⟩)) ∧ w.heap.size ≤ c ∧ Below w.heap.size w w' ∧ CS w' c w'.heap.size (.ok zs) := by
  obtain ⟨c, rfl, hc, hbe, a, cap, hh, h1, h2, hr, _⟩ := h
  exact ⟨c, rfl, hc, hbe, ⟨⟨a, cap, hh, h1, h2, hr, fun x hx hz => hr.lt x hx hz⟩, hb, hl, (by intro e he; cases he), lt_of_block hh⟩⟩
/-- The end of parse: the result's block is written. -/
theorem fin_bad {w x : World} {R : Nat} {zs : Array Value} {n : Mn} (er : Int) (hR : R = w.heap.size) (hb : Below w.heap.size w x) : MsP w false er n (.returned (.tuple #[.agg #[.int .i64 0, .int .u32 0, .int .i64 0, .int .u32 0, .int .i64 0, .int .i64 0, .int .i64 0, .int .i64 0, .int .i64 0, .int .i64 0, .slice none 0 0, .slice none 0 0], .int .i64 er])) (x.setCells R 0 zs.toList) := by
  subst hR
  have gs := grownBy_setCells w.heap.size zs.toList 0 x
  exact ⟨hb.grown gs hb.size (fun k hk => by cases hk; exact Nat.le_refl _), fun _ => rfl, (fun h => by cases h)⟩
theorem RgR.lt {w : World} {a : Option Addr} {G : List (Int × Int)} (h : RgR w a G) : ∀ x, a = some x → G ≠ [] → x.block < w.heap.size := by
  intro x hx hz
  rcases h with h | ⟨b, off, rfl, hc⟩
  · exact absurd h hz
  · simp at hx; subst hx
    exact cell_lt (hc 0 (List.length_pos_iff.2 hz)).1
theorem RgR.same2 {w w' : World} {a : Option Addr} {G : List (Int × Int)} (h : RgR w a G) (hs : ∀ x, a = some x → G ≠ [] → w'.heap[x.block]? = w.heap[x.block]?) : RgR w' a G := by
  by_cases hz : G = []
  · exact .inl hz
  · exact h.same fun x hx => hs x hx hz
theorem fin_ok {w x : World} {R : Nat} {zs : Array Value} {n : Mn} {ra : Option Addr} {rc : Nat} {da : Option Addr} {dc U0 : Nat} (er : Int) (hR : R = w.heap.size) (hb : Below w.heap.size w x) (hm : MsR U0 x n ra rc da dc) (hU : w.heap.size < U0) : MsP w true er n (.returned (.tuple #[(n.ms ra rc da dc).V, .int .i64 0])) (x.setCells R 0 zs.toList) := by
  subst hR
  have gs := grownBy_setCells w.heap.size zs.toList 0 x
  refine ⟨hb.grown gs hb.size (fun k hk => by cases hk; exact Nat.le_refl _), (fun h => by cases h), fun _ => ⟨ra, rc, da, dc, rfl, ⟨hm.g.same2 fun y hy hne => gs.block _ (hm.g.lt y hy hne) (fun e => by have := hm.fg y hy; simp at e; omega), ?_, (fun y hy => by have := hm.fg y hy; omega), (fun y hy => by have := hm.fd y hy; omega)⟩⟩⟩
  exact ⟨hm.d.1, hm.d.2.1, hm.d.2.2.1, hm.d.2.2.2.1, hm.d.2.2.2.2.1, hm.d.2.2.2.2.2.same fun y hy hne => gs.block _ (hm.d.2.2.2.2.2.lt y hy hne) (fun e => by have := hm.fd y hy; simp at e; omega)⟩
end Go.Proofs.Ytaibojmaghmfnaa
