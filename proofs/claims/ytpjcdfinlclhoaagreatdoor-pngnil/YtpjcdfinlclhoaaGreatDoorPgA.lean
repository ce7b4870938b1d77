/- A PNG's decoder that was told nothing yet: New; chunks of which none has begun. -/
import Derived.Test.YtpjcdfinlclhoaaGreatDoorCn15
namespace Go.Proofs.YtpjcdfinlclhoaaGreatDoor
open Go.RowKit
theorem heap_alloc_newG (w : World) (o : Obj) : (w.alloc o).heap[w.heap.size]? = some o := by show (w.heap.push o)[w.heap.size]? = some o; simp
/-- A decoder's cells. -/
def DcA (er seen : Int) (cp : Value) : Array Value := #[.int .i64 er, .int .i64 seen, cp, .slice none 0 0, .bool false, .bool false, .bool false, .bool false, .bool false, .bool false, .int .i64 0, .int .i64 0, .int .i64 0, .int .i64 0, .bool false, .slice none 0 0, .slice none 0 0, .slice none 0 0, .slice none 0 0, .bool false, .pointer none, .slice none 0 0, .slice none 0 0, .slice none 0 0, .int .i64 0, .int .i64 0]
def DcM (w : World) (d : Nat) (er seen : Int) (cp : Value) : Prop := w.heap[d]? = some (.cells (DcA er seen cp) 60 (0, 0))
/-- A reader that has begun no chunk. -/
def Rdy (w : World) (p : Nat) (pre : List Int) : Prop := ∃ L now cur, CRd w p pre L now cur ∧ L ++ here now cur = []
theorem Rdy.same {w w' : World} {p : Nat} {pre : List Int} (h : Rdy w p pre) (hs : w'.heap[p]? = w.heap[p]?) : Rdy w' p pre := by
  obtain ⟨L, now, cur, h1, h2⟩ := h
  exact ⟨L, now, cur, h1.same hs, h2⟩
theorem Rdy.lt {w : World} {p : Nat} {pre : List Int} (h : Rdy w p pre) : p < w.heap.size := by obtain ⟨L, now, cur, h1, h2⟩ := h; exact h1.lt
theorem gath1_some {l l' : List Sn} {q : Pq} (h : gath1 l q = some l') : l' ≠ [] := by
  unfold gath1 at h
  cases hb : (if q.bg = true then l ++ [(⟨q.kind, q.size, [], false⟩ : Sn)] else l).getLast? with
  | none => rw [hb] at h; cases h
  | some x =>
    rw [hb] at h
    simp only at h
    split at h
    · cases h
    · simp only [Option.some.injEq] at h
      subst h
      simp
theorem gath_keeps : ∀ (qs : List Pq) (l l' : List Sn), gath l qs = some l' → l ≠ [] → l' ≠ []
  | [], l, l', h, hl => by simp only [gath, Option.some.injEq] at h; subst h; exact hl
  | q :: r, l, l', h, hl => by
    rw [gath] at h
    cases hg : gath1 l q with
    | none => rw [hg] at h; cases h
    | some m => rw [hg] at h; exact gath_keeps r m l' h (gath1_some hg)
theorem gath_none {qs : List Pq} (h : gath [] qs = some []) : qs = [] := by
  cases qs with
  | nil => rfl
  | cons q r =>
    rw [gath] at h
    cases hg : gath1 [] q with
    | none => rw [hg] at h; cases h
    | some m => rw [hg] at h; exact absurd rfl (gath_keeps r m [] h (gath1_some hg))
def QuPost (w : World) (p : Nat) (pre : List Int) (er : Int) (e : Ending) (w' : World) : Prop :=
  ∃ a c, e = .returned (.tuple #[.slice a 0 c, .int .i64 er]) ∧ Fr w w' p none ∧ (er = 0 → Rdy w' p pre)
theorem push_quiet {w : World} {p : Nat} {pre bs : List Int} {er2 : Int} (hbb : Bytes bs) (av : Option Addr) (m c : Nat) (hm : bs.length = m) (hb1 : bs.length ≤ 1000000) (hmc : m ≤ c) (hcm : c ≤ 9223372036854775807) (hc0 : av = none → c = 0) (hrow : Row w av bs) (hne : ∀ x, av = some x → bs ≠ [] → x.block ≠ p) (h : Rdy w p pre) (ho : ofAll (pre ++ bs) = ([], er2)) (he2 : er2 = 2 ∨ er2 = 3) :
    Calls Tryz.prog 17 #[.pointer (some ⟨p, 0, none⟩), .slice av m c] w fun e w' => QuPost w p (pre ++ bs) (if er2 = 2 then 0 else er2) e w' := by
  obtain ⟨L, now, cur, h1, h2⟩ := h
  refine (push_any bs hbb av m c hm hb1 hmc hcm hc0 hrow hne h1).mono ?_
  rintro e w' ⟨vt, T, er, rfl, hpr, _, hfr, _, _, hcase⟩
  rw [h2] at hcase
  obtain ⟨a, c', hv, _⟩ := hpr.shape
  rcases hcase with ⟨rfl, L', now', cur', g1, g2⟩ | ⟨her, _, W, g1, g2⟩
  · have hsay := g1.2.1.say g1.1
    rw [ho] at hsay
    simp only [Prod.mk.injEq] at hsay
    rw [← hsay.1] at g2
    have hT := gath_none g2
    have hT0 : T.length = 0 := by have := congrArg List.length hT; simpa using this
    rw [hT0] at hv
    have h20 : er2 = 2 := by
      rcases he2 with h | h
      · exact h
      · exfalso; have := hsay.2; split at this <;> omega
    rw [if_pos h20]
    exact ⟨a, c', by rw [hv], hfr, fun _ => ⟨L', now', cur', g1, hsay.1.symm⟩⟩
  · rw [ho] at g1
    simp only [Prod.mk.injEq] at g1
    obtain ⟨rfl, rfl⟩ := g1
    have hT := gath_none g2
    have hT0 : T.length = 0 := by have := congrArg List.length hT; simpa using this
    rw [hT0] at hv
    rw [if_neg (by omega)]
    exact ⟨a, c', by rw [hv], hfr, fun h0 => by omega⟩
set_option maxHeartbeats 800000 in
theorem pnew_any (w : World) : Calls Tryz.prog 9 #[] w fun e w' => ∃ p d, e = .returned (.pointer (some ⟨d, 0, none⟩)) ∧ DcM w' d 0 0 (.pointer (some ⟨p, 0, none⟩)) ∧ Rdy w' p [] ∧ w.heap.size ≤ p ∧ w.heap.size ≤ d ∧ p ≠ d ∧ Below w.heap.size w w' := by
  have CN := cnew_any w
  go_enter Tryz.func9, Tryz.ntmps9
  go_wp2_with fail
  refine CN.mono ?_
  clear CN
  rintro e w1 ⟨rfl, h1, b1⟩
  have HF : Hid (∀ o, Below w.heap.size w (w1.alloc o) ∧ Rdy (w1.alloc o) w.heap.size [] ∧ (w1.alloc o).heap[w1.heap.size]? = some o ∧ w.heap.size < w1.heap.size) := fun o => ⟨b1.alloc b1.size _, ⟨[], 0, [], h1.same (Below.heap_alloc _ _ _ h1.lt), rfl⟩, heap_alloc_newG w1 o, h1.lt⟩
  clear h1 b1
  go_wp2
  go_ret
  exact ⟨w.heap.size, w1.heap.size, rfl, (HF.out _).2.2.1, (HF.out _).2.1, Nat.le_refl _, Nat.le_of_lt (HF.out (.cells #[] 0)).2.2.2, Nat.ne_of_lt (HF.out (.cells #[] 0)).2.2.2, (HF.out _).1⟩
end Go.Proofs.YtpjcdfinlclhoaaGreatDoor
