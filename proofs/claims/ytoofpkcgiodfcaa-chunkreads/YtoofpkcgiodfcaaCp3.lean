/- The document's examples; a nil reader. -/
import Derived.Test.YtoofpkcgiodfcaaCp2
namespace Go.Proofs.Ytoofpkcgiodfcaa
open Go.RowKit
def iend12 : List Int := [0, 0, 0, 0, 73, 69, 78, 68, 174, 66, 96, 130]
def kIEND : List Int := [73, 69, 78, 68]
def sIEND : ByteArray := ⟨#[73, 69, 78, 68]⟩
def sIEN : ByteArray := ⟨#[73, 69, 78]⟩
theorem kb_iend : kb sIEND = kIEND := by decide
theorem isK_iend : isK kIEND = true := by decide
theorem isK_ien : isK (kb sIEN) = false := by decide
theorem iend_chB : chB kIEND [] = iend12 := by decide +kernel
def fIEND : Nat → Ck := fun _ => ⟨sIEND, none, 0, []⟩
def fIEN : Nat → Ck := fun _ => ⟨sIEN, none, 0, []⟩
theorem packB_iend : packB fIEND 1 = first8 ++ iend12 := by
  show first8 ++ chB (kb sIEND) [] = _
  rw [kb_iend, iend_chB]
theorem okK_iend : okK fIEND 1 := by
  intro i _
  show isK (kb sIEND) = true
  rw [kb_iend]; exact isK_iend
theorem okK_ien : ¬ okK fIEN 1 := by
  intro h
  have := h 0 (by omega)
  rw [show (fIEN 0).kind = sIEN from rfl, isK_ien] at this
  cases this
theorem ckArg_new (w : World) (s : Nat) (hs : s = w.heap.size) (kd : ByteArray) (F : Nat → Ck) (hF : F = fun _ => ⟨kd, none, 0, []⟩) : CkArg (w.alloc (.cells #[.string kd, .slice none 0 0] 40)) (some ⟨s, 0, none⟩) 1 1 F := by
  subst hs hF
  refine ⟨Nat.le_refl _, by unfold maxLen; omega, fun _ => ⟨_, 0, rfl, fun i hi => ?_⟩⟩
  obtain rfl : i = 0 := by omega
  refine ⟨by rw [World.cell?_alloc_mark]; rfl, by rw [World.cell?_alloc_mark]; rfl, Bytes.nil, Nat.le_refl _, ⟨by show 0 ≤ _; omega, by show 0 ≤ _; omega⟩, fun _ => rfl, .inl rfl⟩
theorem say_iend : ofAll (first8 ++ iend12) = ([⟨kIEND, 0, [], true⟩], 0) := by
  rw [ofAll_first]
  have h := ps_whole (c := iend12) (by decide) (by decide) (by decide) (by decide +kernel) []
  rw [List.append_nil, ps_nil] at h
  rw [h]
  rfl
theorem gath1_len {l l' : List Sn} {q : Pq} (h : gath1 l q = some l') : l.length ≤ l'.length ∧ (q.bg = true → l'.length = l.length + 1) := by
  unfold gath1 at h
  cases hb : q.bg with
  | true =>
    simp only [hb, if_true, List.getLast?_append, List.getLast?_singleton, Option.some_or, List.dropLast_concat] at h
    split at h
    · cases h
    · simp only [Option.some.injEq] at h
      subst h
      simp
  | false =>
    simp only [hb, Bool.false_eq_true, if_false] at h
    cases hl : l.getLast? with
    | none => rw [hl] at h; cases h
    | some x =>
      rw [hl] at h
      simp only at h
      split at h
      · cases h
      · simp only [Option.some.injEq] at h
        subst h
        have : l ≠ [] := by rintro rfl; simp at hl
        have := List.length_pos_iff.2 this
        simp
        omega
theorem gath_len : ∀ (Q : List Pq) {l l' : List Sn}, gath l Q = some l' → l.length ≤ l'.length
  | [], l, l', h => by simp only [gath, Option.some.injEq] at h; rw [h]; exact Nat.le_refl _
  | q :: r, l, l', h => by
    simp only [gath] at h
    cases hg : gath1 l q with
    | none => rw [hg] at h; cases h
    | some m => rw [hg] at h; exact Nat.le_trans (gath1_len hg).1 (gath_len r h)
theorem gath1_nil {q : Pq} {l' : List Sn} (h : gath1 [] q = some l') : q.bg = true ∧ l' = [⟨q.kind, q.size, q.data, q.en⟩] := by
  cases hb : q.bg with
  | true =>
    obtain ⟨k, n, d, b, e⟩ := q
    simp only at hb
    subst hb
    rw [gath1_new] at h
    simp only [Option.some.injEq] at h
    exact ⟨rfl, h.symm⟩
  | false => unfold gath1 at h; simp [hb] at h
theorem gath1_fin {l : List Sn} {s : Sn} {q : Pq} {l' : List Sn} (hs : s.fin = true) (h : gath1 (l ++ [s]) q = some l') : q.bg = true := by
  cases hb : q.bg with
  | true => rfl
  | false =>
    unfold gath1 at h
    simp only [hb, Bool.false_eq_true, if_false, List.getLast?_append, List.getLast?_singleton, Option.some_or, hs, true_or, if_true] at h
    cases h
/-- One chunk, told by one push. -/
theorem one_piece {T : List Pm} {S : Sn} (hen : ∀ x ∈ T.dropLast, x.q.en = true) (hg : gath [] (T.map Pm.q) = some [S]) : ∃ x, T = [x] ∧ x.q = ⟨S.kind, S.size, S.data, true, S.fin⟩ := by
  match T, hen, hg with
  | [], _, hg => simp [gath] at hg
  | [x], _, hg =>
    refine ⟨x, rfl, ?_⟩
    simp only [List.map_cons, List.map_nil, gath] at hg
    cases h1 : gath1 [] x.q with
    | none => rw [h1] at hg; cases hg
    | some m =>
      rw [h1] at hg
      simp only [Option.some.injEq] at hg
      obtain ⟨h2, h3⟩ := gath1_nil h1
      rw [hg] at h3
      simp only [List.cons.injEq, and_true] at h3
      rw [h3]
      obtain ⟨⟨k, n, d, b, e⟩, a, c⟩ := x
      simp only at h2
      rw [h2]
  | x :: y :: r, hen, hg =>
    exfalso
    have hx := hen x (by simp)
    simp only [List.map_cons, gath] at hg
    cases h1 : gath1 [] x.q with
    | none => rw [h1] at hg; cases hg
    | some m =>
      rw [h1] at hg
      simp only at hg
      obtain ⟨h2, h3⟩ := gath1_nil h1
      cases h4 : gath1 m y.q with
      | none => rw [h4] at hg; cases hg
      | some m2 =>
        rw [h4] at hg
        have hf := gath1_fin (l := []) (s := ⟨x.q.kind, x.q.size, x.q.data, x.q.en⟩) hx (by rw [List.nil_append, ← h3]; exact h4)
        have e1 := (gath1_len h4).2 hf
        have e2 := gath_len _ hg
        rw [h3] at e1
        simp at e1 e2
        omega
theorem push20 {w : World} {p : Nat} (av : Option Addr) (c : Nat) (hmc : 20 ≤ c) (hcm : c ≤ 9223372036854775807) (hc0 : av = none → c = 0) (hrow : Row w av (first8 ++ iend12)) (hne : ∀ x, av = some x → x.block ≠ p) (h : CRd w p [] [] 0 []) :
    Calls Try.prog 10 #[.pointer (some ⟨p, 0, none⟩), .slice av 20 c] w fun e w' => ∃ b cl, e = .returned (.tuple #[.slice (some ⟨b, 0, none⟩) 1 cl, .int .i64 0]) ∧ 1 ≤ cl ∧ w.heap.size ≤ b ∧ (w'.cell? ⟨b, 0, none⟩ = some (.string ⟨#[73, 69, 78, 68]⟩) ∧ w'.cell? ⟨b, 3, none⟩ = some (.bool true) ∧ w'.cell? ⟨b, 4, none⟩ = some (.bool true)) ∧ CRd w' p (first8 ++ iend12) [⟨kIEND, 0, [], true⟩] 1 [] ∧ Fr w w' p none := by
  refine (push_any (first8 ++ iend12) (bytes_of_all (by decide)) av 20 c rfl (by decide) hmc hcm hc0 hrow (fun x hx _ => hne x hx) h).mono ?_
  rintro e w' ⟨vt, T, er, rfl, hpr, htok, hfr, htl, hen, hcase⟩
  rcases hcase with ⟨rfl, L, now, cur, hcr, hg⟩ | ⟨her, _, W, hW, _⟩
  · have hs := hcr.2.1.say hcr.1
    rw [List.nil_append, say_iend] at hs
    simp only [Prod.mk.injEq] at hs
    obtain ⟨e1, e2⟩ := hs
    by_cases hc : now = 1 ∧ cur = []
    · obtain ⟨rfl, rfl⟩ := hc
      rw [show here 1 [] = [] from rfl, List.append_nil] at e1 hg
      subst e1
      rw [show ([] : List Sn) ++ here 0 [] = [] from rfl] at hg
      obtain ⟨x, rfl, hq⟩ := one_piece hen hg
      obtain ⟨av', cv, rfl, h1, _⟩ := hpr.shape
      obtain ⟨b, rfl, hb, hcell⟩ := hpr.cell 0 x rfl
      have hx : x.enc = [.string (strOfNums kIEND), .int .i64 0, .slice x.a x.q.data.length x.c, .bool true, .bool true] := by
        unfold Pm.enc
        rw [hq]
        rfl
      rw [hx] at hcell
      exact ⟨b, cv, rfl, h1, hb, ⟨hcell 0 (by omega), hcell 3 (by omega), hcell 4 (by omega)⟩, hcr, hfr⟩
    · rw [if_neg hc] at e2
      cases e2
  · rw [List.nil_append, say_iend] at hW
    simp only [Prod.mk.injEq] at hW
    omega
set_option maxHeartbeats 400000 in
theorem rfirst_any (w : World) : Calls Try.prog 19 #[] w fun e w' => e = .returned (.slice (some ⟨w.heap.size, 0, none⟩) 8 8) ∧ w' = w.alloc (.cells #[.int .u8 137, .int .u8 80, .int .u8 78, .int .u8 71, .int .u8 13, .int .u8 10, .int .u8 26, .int .u8 10] 5) := by
  go_enter Try.func19, Try.ntmps19
  go_wp2
  go_ret
  exact ⟨rfl, rfl⟩
end Go.Proofs.Ytoofpkcgiodfcaa
