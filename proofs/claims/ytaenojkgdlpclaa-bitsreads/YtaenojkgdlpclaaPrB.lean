import Derived.Test.YtaenojkgdlpclaaRRj
import Derived.Test.YtaenojkgdlpclaaRdB
import Derived.Test.YtaenojkgdlpclaaFewB
namespace Go.Proofs.Ytaenojkgdlpclaa
open Go.RowKit

/-- What a reader's method leaves that lets M bits go. -/
def MP (w : World) (r : Nat) (g : Option Nat) (zs : List Int) (gone M : Nat) (w' : World) : Prop :=
  Rd w' r g (zs.drop ((gone + M) / 8)) ((gone + M) % 8) ∧ Fr w w' r g
def MR (w : World) (x : Nat) (g : Option Nat) (L : List Int) (n M : Nat) (w' : World) : Prop := RRf w' x g L (n + M) ∧ Fr w w' x g
theorem MP.zero {w w' : World} {r : Nat} {g : Option Nat} {zs : List Int} {gone : Nat} (h : Rd w' r g zs gone) (hg : gone < 8) (hf : Fr w w' r g) : MP w r g zs gone 0 w' := by
  refine ⟨?_, hf⟩
  rw [show (gone + 0) / 8 = 0 by omega, show (gone + 0) % 8 = gone by omega]
  exact h
theorem take_both {zs L : List Int} {gone n : Nat} (h : RI zs gone L n) (hl : L.length ≤ 100000) (N : Int) :
    ∃ (M : Nat) (V : Int) (O : Bool), gone + M ≤ 8 * zs.length ∧
      (∀ r g w, Rd w r g zs gone → Calls Try.prog 13 #[.pointer (some ⟨r, 0, none⟩), .int .i64 N] w fun e w' => e = .returned (.tuple #[.int .i64 V, .bool O]) ∧ MP w r g zs gone M w') ∧
      (∀ x g w, RRf w x g L n → Calls Try.prog 14 #[.pointer (some ⟨x, 0, none⟩), .int .i64 N] w fun e w' => e = .returned (.tuple #[.int .i64 V, .bool O]) ∧ MR w x g L n M w') := by
  have hlen := h.len
  by_cases hc : N < 0 ∨ 32 < N ∨ 8 * (zs.length : Int) - gone < N
  · refine ⟨0, 0, false, by omega, fun r g w hr => ?_, fun x g w hr => ?_⟩
    · refine (take_no r g zs gone N w hr (by omega) (by omega) hc).mono ?_
      rintro e w' ⟨rfl, q, rfl⟩
      exact ⟨rfl, MP.zero (hr.drewN q) (by omega) ((Fr.refl _ _ _).drewN q)⟩
    · refine (rtake_no x g L n N w hr (by omega) h.le (by omega)).mono ?_
      rintro e w' ⟨rfl, q, rfl⟩
      exact ⟨rfl, hr.drewN q, (Fr.refl _ _ _).drewN q⟩
  · obtain ⟨m, rfl⟩ : ∃ m : Nat, N = m := ⟨N.toNat, by omega⟩
    refine ⟨m, bitV zs gone % 2 ^ m, true, by omega, fun r g w hr => ?_, fun x g w hr => ?_⟩
    · exact take_yes r g zs gone m w hr h.byt (by omega) (by omega) (by omega) (by omega)
    · have := rtake_yes x g L n m w hr (by omega) h.bit (by omega) (by omega)
      rw [h.val m (by omega)] at this
      exact this
theorem look_both {zs L : List Int} {gone n : Nat} (h : RI zs gone L n) (hl : L.length ≤ 100000) (N : Int) :
    ∃ V : Int, (∀ r g w, Rd w r g zs gone → Calls Try.prog 15 #[.pointer (some ⟨r, 0, none⟩), .int .i64 N] w fun e w' => e = .returned (.int .i64 V) ∧ MP w r g zs gone 0 w') ∧
      (∀ x g w, RRf w x g L n → Calls Try.prog 16 #[.pointer (some ⟨x, 0, none⟩), .int .i64 N] w fun e w' => e = .returned (.int .i64 V) ∧ MR w x g L n 0 w') := by
  have hlen := h.len
  by_cases hc : N < 0 ∨ 8 * (zs.length : Int) - gone ≤ N
  · refine ⟨-1, fun r g w hr => ?_, fun x g w hr => ?_⟩
    · refine (look_no r g zs gone N w hr (by omega) (by omega) hc).mono ?_
      rintro e w' ⟨rfl, q, rfl⟩
      exact ⟨rfl, MP.zero (hr.drewN q) (by omega) ((Fr.refl _ _ _).drewN q)⟩
    · refine (rlook_no x g L n N w hr (by omega) h.le (by omega)).mono ?_
      rintro e w' ⟨rfl, q, rfl⟩
      exact ⟨rfl, hr.drewN q, (Fr.refl _ _ _).drewN q⟩
  · obtain ⟨m, rfl⟩ : ∃ m : Nat, N = m := ⟨N.toNat, by omega⟩
    refine ⟨bitV zs gone / 2 ^ m % 2, fun r g w hr => ?_, fun x g w hr => ?_⟩
    · refine (look_yes r g zs gone m w hr h.byt (by omega) (by omega) (by omega)).mono ?_
      rintro e w' ⟨rfl, q, rfl⟩
      exact ⟨rfl, MP.zero (hr.drewN q) (by omega) ((Fr.refl _ _ _).drewN q)⟩
    · have := rlook_yes x g L n m w hr (by omega) (by omega)
      rw [h.look m (by omega)] at this
      refine this.mono ?_
      rintro e w' ⟨rfl, q, rfl⟩
      exact ⟨rfl, hr.drewN q, (Fr.refl _ _ _).drewN q⟩
theorem align_both {zs L : List Int} {gone n : Nat} (h : RI zs gone L n) (hl : L.length ≤ 100000) :
    ∃ M : Nat, gone + M ≤ 8 * zs.length ∧ (∀ r g w, Rd w r g zs gone → Calls Try.prog 17 #[.pointer (some ⟨r, 0, none⟩)] w fun e w' => e = .returned (.int .i64 M) ∧ MP w r g zs gone M w') ∧
      (∀ x g w, RRf w x g L n → Calls Try.prog 18 #[.pointer (some ⟨x, 0, none⟩)] w fun e w' => e = .returned (.int .i64 M) ∧ MR w x g L n M w') := by
  have hlen := h.len
  have hgn := h.gn
  refine ⟨(8 - n % 8) % 8, by omega, fun r g w hr => ?_, fun x g w hr => ?_⟩
  · by_cases h0 : gone = 0
    · subst h0
      rw [← hgn]
      refine (align_no r g zs w hr).mono ?_
      rintro e w' ⟨rfl, rfl⟩
      exact ⟨rfl, MP.zero hr (by omega) (Fr.refl _ _ _)⟩
    · have := align_yes r g zs gone w hr (by omega) (by omega) (by omega) (by omega)
      refine this.mono ?_
      rintro e w' ⟨rfl, h1, h2⟩
      rw [show (8 - n % 8) % 8 = 8 - gone by omega]
      refine ⟨by rw [show ((8 - gone : Nat) : Int) = 8 - (gone : Int) by omega], ?_, h2⟩
      rw [show (gone + (8 - gone)) / 8 = 1 by omega, show (gone + (8 - gone)) % 8 = 0 by omega]
      exact h1
  · exact ralign_any x g L n _ w hr (by have := h.le; omega) rfl
theorem bytes_both {zs L : List Int} {gone n : Nat} (h : RI zs gone L n) (hl : L.length ≤ 100000) (N : Int) :
    ∃ (M : Nat) (l : List Int), gone + M ≤ 8 * zs.length ∧
      (∀ r g w, Rd w r g zs gone → Calls Try.prog 20 #[.pointer (some ⟨r, 0, none⟩), .int .i64 N] w fun e w' => ∃ a c, e = .returned (.slice a l.length c) ∧ Row w' a l ∧ (∀ y, a = some y → w.heap.size ≤ y.block) ∧ MP w r g zs gone M w') ∧
      (∀ x g w, RRf w x g L n → Calls Try.prog 21 #[.pointer (some ⟨x, 0, none⟩), .int .i64 N] w fun e w' => ∃ a c, e = .returned (.slice a l.length c) ∧ Row w' a l ∧ MR w x g L n M w') := by
  have hlen := h.len
  have hgn := h.gn
  by_cases h0 : gone = 0
  · subst h0
    obtain ⟨K, hK⟩ : ∃ K : Nat, (K : Int) = min (max N 0) zs.length := ⟨(min (max N 0) zs.length).toNat, by omega⟩
    refine ⟨8 * K, zs.take K, by omega, fun r g w hr => ?_, fun x g w hr => rbytes_yes x g L zs n K N w hr h hl hK⟩
    by_cases h1 : N < 1
    · obtain rfl : K = 0 := by omega
      refine (pbytes_no r g zs 0 N w hr (.inl h1)).mono ?_
      rintro e w' ⟨rfl, rfl⟩
      exact ⟨none, 0, rfl, .inl rfl, (by intro y hy; cases hy), MP.zero hr (by omega) (Fr.refl _ _ _)⟩
    · refine (pbytes_yes r g zs N K w hr (by omega) (by omega) (by omega)).mono ?_
      rintro e w' ⟨a, c, rfl, h1, h4, h2, h3⟩
      refine ⟨a, c, rfl, h1, h4, ?_, h3⟩
      rw [show (0 + 8 * K) / 8 = K by omega, show (0 + 8 * K) % 8 = 0 by omega]
      exact h2
  · refine ⟨0, [], by omega, fun r g w hr => ?_, fun x g w hr => ?_⟩
    · refine (pbytes_no r g zs gone N w hr (.inr h0)).mono ?_
      rintro e w' ⟨rfl, rfl⟩
      exact ⟨none, 0, rfl, .inl rfl, (by intro y hy; cases hy), MP.zero hr (by omega) (Fr.refl _ _ _)⟩
    · refine (rbytes_no x g L n N w hr (by have := h.le; omega) (by omega)).mono ?_
      rintro e w' ⟨rfl, rfl⟩
      exact ⟨none, 0, rfl, .inl rfl, hr, Fr.refl _ _ _⟩

/-- Both readers, apart from each other, in the call's own memory. -/
structure PR (w wr : World) (r : Nat) (g : Option Nat) (zs : List Int) (gone : Nat) (x : Nat) (gl : Option Nat) (L : List Int) (n : Nat) : Prop where
  rd : Rd wr r g zs gone
  rf : RRf wr x gl L n
  r0 : w.heap.size ≤ r
  x0 : w.heap.size ≤ x
  g0 : ∀ k, g = some k → w.heap.size ≤ k
  l0 : ∀ k, gl = some k → w.heap.size ≤ k
  bel : Below w.heap.size w wr
theorem PR.apart {w wr : World} {r x : Nat} {g gl : Option Nat} {zs L : List Int} {gone n : Nat} (p : PR w wr r g zs gone x gl L n) : r ≠ x ∧ (∀ k, g = some k → k ≠ x) ∧ (∀ k, gl = some k → k ≠ r) ∧ (∀ k, gl = some k → some k ≠ g) := by
  obtain ⟨v, hh, hs⟩ := p.rd
  obtain ⟨u, hx, ht⟩ := p.rf
  refine ⟨?_, ?_, ?_, fun k hk => ht.apart hs (by decide) hk⟩
  · rintro rfl; rw [hh] at hx; simp at hx
  · rintro k hk rfl
    obtain ⟨c, hc⟩ := hs.type hk
    rw [hx] at hc; simp at hc
  · rintro k hk rfl
    obtain ⟨c, hc⟩ := ht.type hk
    rw [hh] at hc; simp at hc
theorem PR.first {w wr w' : World} {r x : Nat} {g g' gl : Option Nat} {zs zs' L : List Int} {gone gone' n : Nat} (p : PR w wr r g zs gone x gl L n) (hw : Rd w' r g' zs' gone') (hf : Fr wr w' r g) (hg : g' = g ∨ ∃ k, g' = some k ∧ wr.heap.size ≤ k) : PR w w' r g' zs' gone' x gl L n := by
  obtain ⟨h1, h2, h3, h4⟩ := p.apart
  refine ⟨hw, p.rf.same (hf.block x p.rf.lt (fun e => h1 e.symm) (fun e => h2 x e.symm rfl)) fun k hk => hf.block k (p.rf.glt hk) (h3 k hk) (h4 k hk), p.r0, p.x0, ?_, p.l0, Fr.below p.bel hf p.r0 p.g0 p.bel.size⟩
  intro k hk
  rcases hg with e | ⟨q, e, hq⟩
  · exact p.g0 k (by rw [← e]; exact hk)
  · rw [e] at hk; cases hk; have := p.bel.size; omega
theorem PR.second {w wr w' : World} {r x : Nat} {g gl gl' : Option Nat} {zs L L' : List Int} {gone n n' : Nat} (p : PR w wr r g zs gone x gl L n) (hw : RRf w' x gl' L' n') (hf : Fr wr w' x gl) (hg : gl' = gl ∨ ∃ k, gl' = some k ∧ wr.heap.size ≤ k) : PR w w' r g zs gone x gl' L' n' := by
  obtain ⟨h1, h2, h3, h4⟩ := p.apart
  refine ⟨p.rd.same (hf.block r p.rd.lt h1 (fun e => h3 r e.symm rfl)) fun k hk => hf.block k (p.rd.glt hk) (h2 k hk) (fun e => h4 k e.symm hk.symm), hw, p.r0, p.x0, p.g0, ?_, Fr.below p.bel hf p.x0 p.l0 p.bel.size⟩
  intro k hk
  rcases hg with e | ⟨q, e, hq⟩
  · exact p.l0 k (by rw [← e]; exact hk)
  · rw [e] at hk; cases hk; have := p.bel.size; omega
theorem PR.old {w wr w' : World} {r x : Nat} {g gl : Option Nat} {zs L : List Int} {gone n : Nat} (p : PR w wr r g zs gone x gl L n) (hb : Below wr.heap.size wr w') : PR w w' r g zs gone x gl L n :=
  ⟨p.rd.old hb, p.rf.old hb, p.r0, p.x0, p.g0, p.l0, p.bel.trans (hb.mono p.bel.size)⟩
theorem PR.set {w wr : World} {r x : Nat} {g gl : Option Nat} {zs L : List Int} {gone n b i : Nat} {u : Value} (p : PR w wr r g zs gone x gl L n) (h0 : w.heap.size ≤ b) (h1 : b ≠ r) (h2 : b ≠ x) (h3 : some b ≠ g) (h4 : some b ≠ gl) : PR w (wr.setCell ⟨b, i, none⟩ u) r g zs gone x gl L n :=
  ⟨p.rd.same (Below.heap_setCell wr _ u r (fun e => h1 e.symm)) fun k hk => Below.heap_setCell wr _ u k (fun e => h3 (by rw [hk, e])), p.rf.same (Below.heap_setCell wr _ u x (fun e => h2 e.symm)) fun k hk => Below.heap_setCell wr _ u k (fun e => h4 (by rw [hk, e])), p.r0, p.x0, p.g0, p.l0, p.bel.setCell h0 u⟩
theorem PR.drewN {w wr : World} {r x : Nat} {g gl : Option Nat} {zs L : List Int} {gone n : Nat} (p : PR w wr r g zs gone x gl L n) (q : Nat) : PR w (wr.drewN q) r g zs gone x gl L n := p.old ⟨rfl, rfl, rfl, Nat.le_refl _, fun _ _ => rfl⟩
/-- A block that a method does not reach. -/
theorem Fr.keep {w w' : World} {r : Nat} {g : Option Nat} {b : Nat} {o : Obj} (hf : Fr w w' r g) (hb : w.heap[b]? = some o) (h1 : b ≠ r) (h2 : some b ≠ g) : w'.heap[b]? = some o := (hf.block b (lt_of_block hb) h1 h2).trans hb
theorem AArg.old {w w' : World} {a : Option Addr} {len cap : Nat} {F : Nat → Ak} (h : AArg w a len cap F) (hb : Below w.heap.size w w') : AArg w' a len cap F := by
  obtain ⟨h1, h2, h3⟩ := h
  refine ⟨h1, h2, fun hp => ?_⟩
  obtain ⟨b, off, e, hc⟩ := h3 hp
  refine ⟨b, off, e, fun i hi => ?_⟩
  obtain ⟨⟨c0, c1, c2⟩, k⟩ := hc i hi
  have hbw : b < w.heap.size := cell_lt c0
  exact ⟨⟨(hb.cell (p := ⟨b, _, none⟩) hbw).trans c0, (hb.cell (p := ⟨b, _, none⟩) hbw).trans c1, (hb.cell (p := ⟨b, _, none⟩) hbw).trans c2⟩, k.1, k.2.1, k.2.2.1, k.2.2.2.1, k.2.2.2.2.1, k.2.2.2.2.2.1, k.2.2.2.2.2.2.old hb⟩
theorem ask_cells {w : World} {c : Nat} {v0 v1 v2 : Value} {t : TypeId} (h : w.heap[c]? = some (.cells #[v0, v1, v2] t (0, 0))) :
    w.cell? ⟨c, 1, none⟩ = some v1 ∧ w.cell? ⟨c, 2, none⟩ = some v2 := by
  constructor <;> simp [World.cell?, h]
/-- 'append(l, ys...)' of bytes. -/
theorem wpList_append_bytes {w : World} {ops : Array Oper} {rest : List Oper} {o : Oper} {a : Act} {Q : Exit → Act → World → Prop} (hgd : o.guard = none) (s x : Operand)
    (ho : o.op = .call { callee := .builtin .append, args := #[s, x], argTypes := #[31, 31] })
    (v : Value) (g : Option Nat) (l : List Int) (hs : a.eval s = v) (hsl : Sl w 5 v g (vals l)) (ad : Option Addr) (m c : Nat) (q : List Int) (hx : a.eval x = .slice ad m c) (hm : q.length = m) (hc : ad = none → c = 0) (hr : Row w ad q) (hlen : l.length + m ≤ 1000000)
    (h : ∀ v' w' g', Sl w' 5 v' g' (vals (l ++ q)) → (g' = g ∨ ∃ k, g' = some k ∧ w.heap.size ≤ k) → w.grownBy w' g → wpList Try.prog ops Q rest (a.put o.dst v') w') : wpList Try.prog ops Q (o :: rest) a w := by
  obtain ⟨i0, hi, hz0, hz1, hz2⟩ := info_parts Try.info5
  cases ad with
  | none =>
    have hq : q = [] := by
      rcases hr with h | ⟨b, off, h, _⟩
      · exact h
      · cases h
    obtain rfl := hc rfl
    subst hq
    simp at hm
    subst hm
    obtain ⟨av, cv, hv, hl1, _⟩ := hsl.shape
    rw [vals_len] at hv hl1
    rw [hv] at hs
    refine wpList_append_sl_none hgd s x _ ho 5 i0 Try.underlying31 hi av _ cv hs hl1 hx ?_
    rw [← hv]
    exact h v w g (by rw [List.append_nil]; exact hsl) (.inl rfl) ⟨rfl, rfl, rfl, Nat.le_refl _, fun _ _ _ => rfl⟩
  | some y =>
    refine wpList_append_sl hgd s x _ ho 5 i0 (.int .u8 0) 1 Try.underlying31 hi hz0 hz1 hz2 rfl v g (vals l) hs hsl y m c (vals q) hx (by rw [vals_len]; exact hm) (news_row hr) (vals_one q) (by rw [vals_len]; omega) (by rw [vals_len]; unfold maxLen; omega) ?_
    intro v' w' g' h1 h2 h3
    exact h v' w' g' (by rw [vals_append]; exact h1) h2 h3
end Go.Proofs.Ytaenojkgdlpclaa
