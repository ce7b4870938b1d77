/- Joined: Iw If Ik Ij In. -/
import Derived.Test.YtloagniacjfkfaaGreatDoorQG
/- Which function reads an item; an error is kept. -/
namespace Go.Proofs.YtloagniacjfkfaaGreatDoor
open Go.RowKit
section
variable {w : World} {d lim n0 : Nat} {s : St} {L : List Int} {a : Nat} {o : Ow} {V : Vs}
/-- A decoder that has failed. -/
def Failed (w : World) (d n0 : Nat) (out : List Int) (er : Int) (tg : Option Nat) : Prop :=
  ∃ t : Tv, Dk w d none [] 0 t ∧ t.failed = er ∧ t.now ≠ 11 ∧ t.rest = .slice none 0 0 ∧ t.total = out.length ∧ Sl w 5 t.told tg (vals (out.drop n0))
def FailPost (w : World) (d n0 : Nat) (out : List Int) (er : Int) (o : Ow) (e : Ending) (w' : World) : Prop :=
  e = .returned (.tuple #[]) ∧ Failed w' d n0 out er o.t ∧ Step w w' d o { o with g := none, q := none }
set_option maxHeartbeats 1600000 in
set_option maxRecDepth 20000 in
theorem fail_any (er : Int) (h : Live w d lim n0 s L a o V) (hnow : s.now ≠ 11) :
    Calls Tryz.prog 93 #[.pointer (some ⟨d, 0, none⟩), .int .i64 er] w fun e w' => FailPost w d n0 s.out er o e w' := by
  have HL : Hid (Live w d lim n0 s L a o V) := h
  obtain ⟨n1, n2, n3⟩ := h.neq
  have HT : Hid (∀ k, o.t = some k → k ≠ d) := fun k hk => (n2 k hk).1
  obtain ⟨⟨zs, gone, hd, hr⟩, hh, hll⟩ := h
  have HD : Hid (Dk w d o.g zs gone (mkT s lim V)) := hd
  obtain ⟨u0, q0, q1⟩ := hd.in0
  have k3 := hd.k3
  have r1 := hd.lits
  have r2 := hd.all
  have r3 := hd.cl
  have r4 := hd.code
  have r5 := hd.row
  have r6 := hd.again
  have r7 := hd.c1
  have r8 := hd.c2
  have r9 := hd.f1
  have r10 := hd.f2
  have fz := hd.fz
  have HTO : Hid (Sl w 5 V.told o.t (vals (s.out.drop n0))) := hh.told
  clear hd hr hh hll n1 n2 n3
  go_enter Tryz.func93, Tryz.ntmps93
  go_wp2
  go_end0
  have hd9 := (((((((((((HD.out.s_failed er).s_in).s_lits 0).s_all 0).s_cl 0).s_code (.pointer none)).s_row (.slice none 0 0)).s_again 0).s_c1 (.pointer none)).s_c2 (.pointer none)).s_f1 (.pointer none)).s_f2 (.pointer none)
  refine ⟨rfl, ⟨_, hd9, rfl, ?_, rfl, rfl, ?_⟩, ?_⟩
  · show (s.now : Int) ≠ 11
    omega
  · refine HTO.out.same fun k hk => ?_
    have h1 := HT.out k hk
    repeat rw [Below.heap_setCell _ _ _ _ h1]
  · have hf : Fr w _ d none := (((((((((((((Fr.refl w d none).snoc 3 (.int .i64 er)).snoc 0 (.slice none 0 0)).snoc 1 (.int .i64 0)).snoc 32778 (.int .i64 0)).snoc 32779 (.int .i64 0)).snoc 32780 (.int .i64 0)).snoc 32781 (.pointer none)).snoc 32782 (.slice none 0 0)).snoc 32783 (.int .i64 0)).snoc 32784 (.pointer none)).snoc 32785 (.pointer none)).snoc 32786 (.pointer none)).snoc 32787 (.pointer none)
    exact ⟨hf.os, hf.tape, hf.output, hf.size, fun k hk h1 _ _ _ => hf.block k hk h1 (by simp), (fun k hk => by cases hk), (fun k hk => by cases hk), fun k hk => .inl hk⟩
def rdF (k : Nat) : FuncId := [108, 109, 110, 111, 112, 113, 114, 115, 116, 117, 118][k]?.getD 0
set_option maxHeartbeats 800000 in
set_option maxRecDepth 20000 in
theorem reader_0 (w : World) : Calls Tryz.prog 92 #[.int .i64 0] w fun e w' => e = .returned (.func (.func 108) #[] #[]) ∧ w' = w := by
  go_enter Tryz.func92, Tryz.ntmps92
  go_wp2
  go_ret
  exact ⟨rfl, rfl⟩
set_option maxHeartbeats 800000 in
set_option maxRecDepth 20000 in
theorem reader_1 (w : World) : Calls Tryz.prog 92 #[.int .i64 1] w fun e w' => e = .returned (.func (.func 109) #[] #[]) ∧ w' = w := by
  go_enter Tryz.func92, Tryz.ntmps92
  go_wp2
  go_ret
  exact ⟨rfl, rfl⟩
set_option maxHeartbeats 800000 in
set_option maxRecDepth 20000 in
theorem reader_2 (w : World) : Calls Tryz.prog 92 #[.int .i64 2] w fun e w' => e = .returned (.func (.func 110) #[] #[]) ∧ w' = w := by
  go_enter Tryz.func92, Tryz.ntmps92
  go_wp2
  go_ret
  exact ⟨rfl, rfl⟩
set_option maxHeartbeats 800000 in
set_option maxRecDepth 20000 in
theorem reader_3 (w : World) : Calls Tryz.prog 92 #[.int .i64 3] w fun e w' => e = .returned (.func (.func 111) #[] #[]) ∧ w' = w := by
  go_enter Tryz.func92, Tryz.ntmps92
  go_wp2
  go_ret
  exact ⟨rfl, rfl⟩
set_option maxHeartbeats 800000 in
set_option maxRecDepth 20000 in
theorem reader_4 (w : World) : Calls Tryz.prog 92 #[.int .i64 4] w fun e w' => e = .returned (.func (.func 112) #[] #[]) ∧ w' = w := by
  go_enter Tryz.func92, Tryz.ntmps92
  go_wp2
  go_ret
  exact ⟨rfl, rfl⟩
set_option maxHeartbeats 800000 in
set_option maxRecDepth 20000 in
theorem reader_5 (w : World) : Calls Tryz.prog 92 #[.int .i64 5] w fun e w' => e = .returned (.func (.func 113) #[] #[]) ∧ w' = w := by
  go_enter Tryz.func92, Tryz.ntmps92
  go_wp2
  go_ret
  exact ⟨rfl, rfl⟩
set_option maxHeartbeats 800000 in
set_option maxRecDepth 20000 in
theorem reader_6 (w : World) : Calls Tryz.prog 92 #[.int .i64 6] w fun e w' => e = .returned (.func (.func 114) #[] #[]) ∧ w' = w := by
  go_enter Tryz.func92, Tryz.ntmps92
  go_wp2
  go_ret
  exact ⟨rfl, rfl⟩
set_option maxHeartbeats 800000 in
set_option maxRecDepth 20000 in
theorem reader_7 (w : World) : Calls Tryz.prog 92 #[.int .i64 7] w fun e w' => e = .returned (.func (.func 115) #[] #[]) ∧ w' = w := by
  go_enter Tryz.func92, Tryz.ntmps92
  go_wp2
  go_ret
  exact ⟨rfl, rfl⟩
set_option maxHeartbeats 800000 in
set_option maxRecDepth 20000 in
theorem reader_8 (w : World) : Calls Tryz.prog 92 #[.int .i64 8] w fun e w' => e = .returned (.func (.func 116) #[] #[]) ∧ w' = w := by
  go_enter Tryz.func92, Tryz.ntmps92
  go_wp2
  go_ret
  exact ⟨rfl, rfl⟩
set_option maxHeartbeats 800000 in
set_option maxRecDepth 20000 in
theorem reader_9 (w : World) : Calls Tryz.prog 92 #[.int .i64 9] w fun e w' => e = .returned (.func (.func 117) #[] #[]) ∧ w' = w := by
  go_enter Tryz.func92, Tryz.ntmps92
  go_wp2
  go_ret
  exact ⟨rfl, rfl⟩
set_option maxHeartbeats 800000 in
set_option maxRecDepth 20000 in
theorem reader_10 (w : World) : Calls Tryz.prog 92 #[.int .i64 10] w fun e w' => e = .returned (.func (.func 118) #[] #[]) ∧ w' = w := by
  go_enter Tryz.func92, Tryz.ntmps92
  go_wp2
  go_ret
  exact ⟨rfl, rfl⟩
theorem reader_any (k : Nat) (hk : k ≤ 10) (w : World) : Calls Tryz.prog 92 #[.int .i64 k] w fun e w' => e = .returned (.func (.func (rdF k)) #[] #[]) ∧ w' = w := by
  match k, hk with
  | 0, _ => exact reader_0 w
  | 1, _ => exact reader_1 w
  | 2, _ => exact reader_2 w
  | 3, _ => exact reader_3 w
  | 4, _ => exact reader_4 w
  | 5, _ => exact reader_5 w
  | 6, _ => exact reader_6 w
  | 7, _ => exact reader_7 w
  | 8, _ => exact reader_8 w
  | 9, _ => exact reader_9 w
  | 10, _ => exact reader_10 w
end
end Go.Proofs.YtloagniacjfkfaaGreatDoor
/- A block ends. -/
namespace Go.Proofs.YtloagniacjfkfaaGreatDoor
open Go.RowKit
def EbPost (w : World) (d lim n0 : Nat) (s : St) (L : List Int) (a : Nat) (o : Ow) (e : Ending) (w' : World) : Prop :=
  e = .returned (.tuple #[]) ∧ ∃ o' V', (if s.last then Ended w' d lim n0 { s with la := none, da := none, now := 11 } L (a + (L.length - a) % 8) o' V' else Live w' d lim n0 { s with la := none, da := none, now := 0 } L a o' V') ∧ Step w w' d o o'
def ByPost (w : World) (d lim n0 : Nat) (s : St) (L : List Int) (a : Nat) (o : Ow) (V : Vs) (e : Ending) (w' : World) : Prop :=
  ∃ av cv g1 zs, e = .returned (.slice av zs.length cv) ∧ Sl w' 5 (.slice av zs.length cv) g1 (vals zs) ∧ (∀ k, g1 = some k → w.heap.size ≤ k) ∧ RI zs 0 L a ∧ Dk w' d o.g [] 0 (mkT s lim V) ∧ Hold w' s lim n0 V o ∧ Step w w' d o o
section
variable {w : World} {d lim n0 : Nat} {s : St} {L : List Int} {a : Nat} {o : Ow} {V : Vs}
theorem Hold.via {w w' : World} (h : Live w d lim n0 s L a o V) (hf : Fr w w' d o.g) : Hold w' s lim n0 V o := by
  obtain ⟨n1, n2, n3⟩ := h.neq
  obtain ⟨tg, tgg, tq, tt⟩ := h.tags
  refine h.2.1.keep (h.tame hf.step) (fun k hk => ?_) (fun k hk => ?_)
  · obtain ⟨c, e⟩ := tt k hk; exact hf.block k (lt_of_block e) (n2 k hk).1 (n2 k hk).2.1
  · obtain ⟨c, e⟩ := tq k hk; exact hf.block k (lt_of_block e) (n1 k hk).1 (n1 k hk).2.1
theorem live_bytes (h : Live w d lim n0 s L a o V) (h8 : (L.length - a) % 8 = 0) (x : Int) (hx : x = (((L.length - a) / 8 : Nat) : Int)) :
    Calls Tryz.prog 148 #[.pointer (some ⟨d, 0, none⟩), .int .i64 x] w fun e w' => ByPost w d lim n0 s L a o V e w' := by
  have h' := h
  obtain ⟨⟨zs, gone, ⟨tl, hg, ht⟩, hr⟩, hh, hll⟩ := h'
  have hlen := hr.len
  have hle := hr.le
  have hm8 := hr.m8
  have hgn := hr.gn
  obtain rfl : gone = 0 := by omega
  have e1 : x = (zs.length : Int) := by rw [hx]; congr 1; omega
  rw [e1]
  by_cases hz : zs.length = 0
  · obtain rfl := List.length_eq_zero_iff.1 hz
    refine (gbytes_no d o.g w hg).mono ?_
    rintro e w' ⟨av, cv, g1, rfl, hs1, hg1, hgd, hf⟩
    exact ⟨av, cv, g1, [], rfl, hs1, hg1, hr, ⟨tl, hgd, ht⟩, Hold.via h hf, hf.step⟩
  · refine (gbytes_yes d o.g zs w hg (hr.small hll) (by omega)).mono ?_
    rintro e w' ⟨av, cv, g1, rfl, hs1, hg1, hgd, hf⟩
    exact ⟨av, cv, g1, zs, rfl, hs1, hg1, hr, ⟨tl, hgd, ht⟩, Hold.via h hf, hf.step⟩
theorem Hold.codes {w : World} {s : St} {V : Vs} (h : Hold w s lim n0 V o) (n : Nat) : Hold w { s with la := none, da := none, now := n } lim n0 { V with c1 := .pointer none, c2 := .pointer none } o :=
  ⟨h.le, h.nle, h.win, h.byt, h.told, h.code, h.row, rfl, rfl, h.fx, h.sep⟩
theorem Live.codes0 {w w' : World} (h : Live w d lim n0 s L a o V) (n : Nat) (x : Int) (hx : x = n) (hw : w' = ((w.setCell ⟨d, 32784, none⟩ (.pointer none)).setCell ⟨d, 32785, none⟩ (.pointer none)).setCell ⟨d, 2, none⟩ (.int .i64 x)) :
    Live w' d lim n0 { s with la := none, da := none, now := n } L a o { V with c1 := .pointer none, c2 := .pointer none } ∧ Step w w' d o o := by
  subst hw hx
  have hf : Fr w (((w.setCell ⟨d, 32784, none⟩ (.pointer none)).setCell ⟨d, 32785, none⟩ (.pointer none)).setCell ⟨d, 2, none⟩ (.int .i64 n)) d o.g := (((Fr.refl _ _ _).snoc _ _).snoc _ _).snoc _ _
  have hh := (Hold.via h hf).codes n
  obtain ⟨⟨zs, gone, hd, hr⟩, _, hll⟩ := h
  exact ⟨⟨⟨zs, gone, ((hd.s_c1 _).s_c2 _).s_now n, hr⟩, hh, hll⟩, hf.step⟩
set_option maxRecDepth 20000 in
theorem eb_fin {w w3 w5 w6 : World} {A : Nat} {V' : Vs} {av : Option Addr} {cv : Nat} {g1 : Option Nat} {zs : List Int}
    (hl : Live w3 d lim n0 { s with la := none, da := none, now := 0 } L A o V') (hs : Step w w3 d o o) (hs5 : Step w3 w5 d o o) (hA : a + (L.length - a) % 8 = A) (hlast : s.last = true)
    (hs1 : Sl w5 5 (.slice av zs.length cv) g1 (vals zs)) (hg1 : ∀ k, g1 = some k → w3.heap.size ≤ k) (hri : RI zs 0 L A) (hho : Hold w5 { s with la := none, da := none, now := 0 } lim n0 V' o)
    (hd : Dk w6 d none [] 0 { mkT { s with la := none, da := none, now := 11 } lim { V' with f1 := .pointer none, f2 := .pointer none } with rest := .slice av zs.length cv }) (hf : Fr w5 w6 d o.g) : EbPost w d lim n0 s L a o (.returned (.tuple #[])) w6 := by
  obtain ⟨n1, n2, n3⟩ := hl.neq
  obtain ⟨⟨cd, td⟩, tgg, tq, tt⟩ := hl.tags
  have h5 : Step w3 w6 d o o := hs5.trans hf.step
  have ht := hl.tame h5
  have hgd : ∀ k, g1 = some k → k ≠ d ∧ some k ≠ o.g := fun k hk => by
    have := hg1 k hk
    have hdl := lt_of_block td
    refine ⟨by omega, fun e => ?_⟩
    obtain ⟨c, e2⟩ := tgg k e.symm
    have := lt_of_block e2
    omega
  have sl6 : Sl w6 5 (.slice av zs.length cv) g1 (vals zs) := hs1.same fun k hk => hf.block k (hs1.lt hk) (hgd k hk).1 (hgd k hk).2
  have told6 : ∀ k, o.t = some k → w6.heap[k]? = w5.heap[k]? := fun k hk => by
    obtain ⟨c, e⟩ := tt k hk
    exact hf.block k (Nat.lt_of_lt_of_le (lt_of_block e) hs5.size) (n2 k hk).1 (n2 k hk).2.1
  have row6 : ∀ k, o.q = some k → w6.heap[k]? = w5.heap[k]? := fun k hk => by
    obtain ⟨c, e⟩ := tq k hk
    exact hf.block k (Nat.lt_of_lt_of_le (lt_of_block e) hs5.size) (n1 k hk).1 (n1 k hk).2.1
  refine ⟨rfl, { o with g := g1 }, { V' with f1 := .pointer none, f2 := .pointer none }, ?_, ?_⟩
  · rw [if_pos hlast, hA]
    refine ⟨_, zs, hd, sl6, hri, ?_, hl.2.2⟩
    have h0 := hl.2.1
    refine ⟨hho.le, hho.nle, hho.win, hho.byt, hho.told.same told6, h0.code.tame ht, hho.row.same row6, ?_, ?_, .inl rfl, ?_⟩
    · exact h0.c1.tame ht
    · exact h0.c2.tame ht
    · cases g1 with
      | none => exact .inl rfl
      | some k =>
        refine .inr fun e => ?_
        obtain ⟨c, e2⟩ := tt k e.symm
        have := lt_of_block e2
        have := hg1 k rfl
        omega
  · have h6 := hs.trans h5
    exact ⟨h6.os, h6.tape, h6.output, h6.size, h6.block, fun k hk => .inr (Nat.le_trans hs.size (hg1 k hk)), h6.q, h6.t⟩
set_option maxHeartbeats 1600000 in
set_option maxRecDepth 20000 in
theorem endBlock_any (h : Live w d lim n0 s L a o V) :
    Calls Tryz.prog 127 #[.pointer (some ⟨d, 0, none⟩)] w fun e w' => EbPost w d lim n0 s L a o e w' := by
  have HL : Hid (Live w d lim n0 s L a o V) := h
  obtain ⟨g, zs, gone, hd⟩ := h.dk
  have k2 := hd.k2
  have k3 := hd.c1
  have k4 := hd.c2
  have k5 : w.cell? ⟨d, 32776, none⟩ = some (.bool s.last) := hd.last
  have fz := hd.fz
  clear hd h
  cases hlast : s.last with
  | false =>
    rw [hlast] at k5
    go_enter Tryz.func127, Tryz.ntmps127
    go_wp2
    refine bodyPost_ret (results_none rfl _ _ _) rfl ?_
    obtain ⟨l2, s2⟩ := HL.out.codes0 0 0 rfl rfl
    refine ⟨rfl, o, { V with c1 := .pointer none, c2 := .pointer none }, ?_, s2⟩
    rw [if_neg (by rw [hlast]; decide)]
    exact l2
  | true =>
    rw [hlast] at k5
    go_enter Tryz.func127, Tryz.ntmps127
    go_wp2_with fail
    obtain ⟨l2, s2⟩ := HL.out.codes0 0 0 rfl rfl
    refine (live_align l2).mono ?_
    rintro e w3 ⟨v, rfl, l3, s3⟩
    have HL3 : Hid (Live w3 d lim n0 { s with la := none, da := none, now := 0 } L (a + (L.length - a) % 8) o { V with c1 := .pointer none, c2 := .pointer none } ∧ Step w w3 d o o) := ⟨l3, s2.trans s3⟩
    have hle : a ≤ L.length := by obtain ⟨⟨zs, gone, _, hr⟩, _⟩ := HL.out; exact hr.le
    have HA : Hid ((L.length - (a + (L.length - a) % 8)) % 8 = 0) := by show _ = _; omega
    have HHv : Hid (∀ n, Calls Tryz.prog 129 #[.pointer (some ⟨d, 0, none⟩)] (w3.drewN n) fun e w' => e = .returned (.int .i64 ((L.length - (a + (L.length - a) % 8) : Nat) : Int)) ∧ ∃ m, w' = (w3.drewN n).drewN m) := fun n => live_have (HL3.out.1.drewN n)
    have HBy : Hid (∀ n x, x = (((L.length - (a + (L.length - a) % 8)) / 8 : Nat) : Int) → Calls Tryz.prog 148 #[.pointer (some ⟨d, 0, none⟩), .int .i64 x] (w3.drewN n) fun e w' => ByPost (w3.drewN n) d lim n0 { s with la := none, da := none, now := 0 } L (a + (L.length - a) % 8) o { V with c1 := .pointer none, c2 := .pointer none } e w') := fun n x hx => live_bytes (HL3.out.1.drewN n) HA.out x hx
    clear l2 s2 l3 s3 k2 k3 k4 k5 fz hle
    obtain ⟨A, hA⟩ : ∃ A, a + (L.length - a) % 8 = A := ⟨_, rfl⟩
    rw [hA] at HL3 HA HHv HBy
    have HAA : Hid (a + (L.length - a) % 8 = A) := hA
    obtain ⟨M, hM⟩ : ∃ M, L.length - A = M := ⟨_, rfl⟩
    rw [hM] at HHv HBy
    have hMb : M ≤ 1125899906842624 := by have := HL3.out.1.2.2; omega
    clear hA hM HA
    go_wp2
    go_region_held3 (fun _ => True) (trivial) (first
      | (go_at_call 129; refine Calls.mono (HHv.out 1) ?_; rintro e w4 ⟨rfl, m4, rfl⟩)
      | (go_at_call 148; refine Calls.mono (HBy.out _ _ ?_) ?_; (rw [IntKind.wrap_i64]; omega); rintro e w5 ⟨av, cv, g1, zs, rfl, hs1, hg1, hri, hdk, hho, hst⟩; have q4 := hdk.k4; have qf := hdk.fz)
      | fail)
    have HF : Hid (∀ w6, w6 = ((((((w5.setCell ⟨d, 4, none⟩ (.slice av zs.length cv)).setCell ⟨d, 0, none⟩ (.slice none 0 0)).setCell ⟨d, 1, none⟩ (.int .i64 0)).setCell ⟨d, 32786, none⟩ (.pointer none)).setCell ⟨d, 32787, none⟩ (.pointer none)).setCell ⟨d, 2, none⟩ (.int .i64 11)) → EbPost w d lim n0 s L a o (.returned (.tuple #[])) w6) := by
      rintro w6 rfl
      have hd1 := (((((hdk.s_rest (.slice av zs.length cv)).s_in).s_f1 (.pointer none)).s_f2 (.pointer none)).s_now 11)
      have hfr : Fr w5 ((((((w5.setCell ⟨d, 4, none⟩ (.slice av zs.length cv)).setCell ⟨d, 0, none⟩ (.slice none 0 0)).setCell ⟨d, 1, none⟩ (.int .i64 0)).setCell ⟨d, 32786, none⟩ (.pointer none)).setCell ⟨d, 32787, none⟩ (.pointer none)).setCell ⟨d, 2, none⟩ (.int .i64 11)) d o.g := ((((((Fr.refl _ _ _).snoc _ _).snoc _ _).snoc _ _).snoc _ _).snoc _ _).snoc _ _
      exact eb_fin HL3.out.1 HL3.out.2 hst.of_drewN HAA.out hlast hs1 hg1 hri hho hd1 hfr
    have q0 := hdk.in0
    obtain ⟨u0, q0, q1⟩ := q0
    have q2 := hdk.k2
    have q5 := hdk.f1
    have q6 := hdk.f2
    clear hs1 hg1 hri hdk hho hst HL3 HHv HBy q4
    go_wp2
    go_end0
    exact HF.out _ rfl
end
end Go.Proofs.YtloagniacjfkfaaGreatDoor
/- Items of a copy: its length's bits, its distance, its distance's bits. -/
namespace Go.Proofs.YtloagniacjfkfaaGreatDoor
open Go.RowKit
section
variable {w : World} {d lim n0 : Nat} {s : St} {L : List Int} {a : Nat} {o : Ow} {V : Vs}
set_option maxHeartbeats 800000 in
set_option maxRecDepth 20000 in
theorem readLength_any (h : Live w d lim n0 s L a o V) (hnow : s.now = 8) (hnb : s.nb ≤ 32) (hle : s.least ≤ 100000) :
    Calls Tryz.prog 116 #[.pointer (some ⟨d, 0, none⟩)] w fun e w' => ItPost w d lim n0 s L a o (itLength s (L.drop a)) e w' := by
  have hle2 : a ≤ L.length := by obtain ⟨⟨zs, gone, _, hr⟩, _⟩ := h; exact hr.le
  by_cases hl : L.length < a + s.nb
  · have e1 : itLength s (L.drop a) = .short := by unfold itLength; rw [if_pos (by rw [List.length_drop]; omega)]
    rw [e1]
    have HT := takeN_no h hl hle
    clear e1
    go_enter Tryz.func116, Tryz.ntmps116
    go_wp2_with fail
    refine HT.mono ?_
    rintro e w2 ⟨rfl, hl2, hs2⟩
    go_wp2
    go_ret
    exact ⟨rfl, o, V, LiveA.of hl2 (by omega), hs2⟩
  · have e1 : itLength s (L.drop a) = .ok { s with len := s.least + bV (L.drop a) 0 s.nb, now := 9 } s.nb := by unfold itLength; rw [if_neg (by rw [List.length_drop]; omega)]
    rw [e1]
    have HT := takeN_yes h hnb (by omega) hle
    clear e1 h
    obtain ⟨X, hX⟩ : ∃ X, s.least + bV (L.drop a) 0 s.nb = X := ⟨_, rfl⟩
    rw [hX] at HT ⊢
    clear hX
    go_enter Tryz.func116, Tryz.ntmps116
    go_wp2_with fail
    refine HT.mono ?_
    rintro e w2 ⟨rfl, hl2, hs2⟩
    obtain ⟨g, zs, gone, hd⟩ := hl2.dk
    have k2 := hd.k2
    have k3 := hd.len
    have fz := hd.fz
    have HL : Hid (Live w2 d lim n0 s L (a + s.nb) o V) := hl2
    clear hd hl2
    go_wp2
    go_ret
    obtain ⟨l3, s3⟩ := HL.out.fld (s' := { s with len := X, now := 9 }) (fun zs gone hk => (hk.s_len X).s_now 9) (((Fr.refl _ _ _).snoc _ _).snoc _ _) rfl rfl rfl rfl rfl
    exact ⟨rfl, o, V, AtS.of l3 (by simp) (by simp), hs2.trans s3⟩
theorem sprd_bound (k : Nat) (hk : k < 30) : (sprd k 2).1 ≤ 24576 ∧ (sprd k 2).2 ≤ 13 ∧ (sprd k 2).1 + 2 ^ (sprd k 2).2 ≤ 32768 := by
  have : ∀ k, k < 30 → (sprd k 2).1 ≤ 24576 ∧ (sprd k 2).2 ≤ 13 ∧ (sprd k 2).1 + 2 ^ (sprd k 2).2 ≤ 32768 := by decide
  exact this k hk
set_option maxHeartbeats 1600000 in
set_option maxRecDepth 20000 in
theorem readDistance_any (ns : List Nat) (h : Live w d lim n0 s L a o V) (hnow : s.now = 9) (hda : s.da = some ns) :
    Calls Tryz.prog 117 #[.pointer (some ⟨d, 0, none⟩)] w fun e w' => ItPost w d lim n0 s L a o (itDist s (L.drop a)) e w' := by
  have hp := h.2.1.c2
  rw [hda] at hp
  obtain ⟨c, hc, hca, hcd⟩ := hp
  have HC : Hid (V.c2 = .pointer (some ⟨c, 0, none⟩)) := hc
  have HT : Hid (∀ n, Calls Tryz.prog 130 #[.pointer (some ⟨c, 0, none⟩), .pointer (some ⟨d, 0, none⟩)] (w.drewN n) fun e w' => RdPost (w.drewN n) d lim n0 s L o V (.tuple #[.int .i64 (nxL ns (L.drop a)).1, .int .i64 (nxL ns (L.drop a)).2.1]) (a + (nxL ns (L.drop a)).2.2) e w') := fun n => live_next c ns (h.drewN n) (hca.old ⟨rfl, rfl, rfl, Nat.le_refl _, fun _ _ => rfl⟩) hcd
  obtain ⟨g, zs, gone, hd⟩ := h.dk
  have kc : w.cell? ⟨d, 32785, none⟩ = some (.pointer (some ⟨c, 0, none⟩)) := by rw [← hc]; exact hd.c2
  have HO : Hid (itDist s (L.drop a) = if (nxL ns (L.drop a)).2.1 = 2 then .short else if (nxL ns (L.drop a)).2.1 ≠ 0 then .bad (nxL ns (L.drop a)).2.1 s.out else if 30 ≤ (nxL ns (L.drop a)).1 then .bad 6 s.out else .ok { s with least := (sprd (nxL ns (L.drop a)).1.toNat 2).1 + 1, nb := (sprd (nxL ns (L.drop a)).1.toNat 2).2, now := 10 } (nxL ns (L.drop a)).2.2) := by
    show _ = _
    unfold itDist
    rw [hda]
    rfl
  have hnn : 0 ≤ (nxL ns (L.drop a)).1 := nxt_nonneg ns _ _ 15 0
  have hn2 := nxL_stay ns (L.drop a)
  clear hd h hc hca hcd hda
  generalize nxL ns (L.drop a) = X at *
  obtain ⟨sym, er, m⟩ := X
  simp only at HO HT hnn hn2
  go_enter Tryz.func117, Tryz.ntmps117
  go_wp2
  go_region_held3 (fun W => W.cell? ⟨d, 32785, none⟩ = some (.pointer (some ⟨c, 0, none⟩))) (go_keep) (first
    | (go_at_call 130; refine Calls.mono (HT.out 1) ?_; rintro e w2 ⟨rfl, hl2, hs2⟩; have kc2 : w2.cell? ⟨d, 32785, none⟩ = some (.pointer (some ⟨c, 0, none⟩)) := by obtain ⟨g', zs', gone', hd'⟩ := hl2.dk; rw [← HC.out]; exact hd'.c2)
    | fail)
  have HL : Hid (Live w2 d lim n0 s L (a + m) o V ∧ Step w w2 d o o) := ⟨hl2, hs2.of_drewN⟩
  clear kc kc2 HT hl2 hs2
  by_cases h0 : er = 0
  · subst h0
    by_cases h3 : 30 ≤ sym
    · have HP : Hid (ItPost w d lim n0 s L a o (itDist s (L.drop a)) (.returned (.int .i64 6)) w2) := by
        show ItPost _ _ _ _ _ _ _ _ _ _ _
        rw [HO.out, if_neg (by decide), if_neg (by decide), if_pos h3]
        exact ⟨rfl, by decide, by decide, s, _, o, V, HL.out.1, rfl, by omega, HL.out.2⟩
      clear HO HL
      go_wp2
      go_ret
      exact HP.out
    · obtain ⟨k, rfl⟩ := Int.eq_ofNat_of_zero_le hnn
      have hk : k < 30 := by omega
      have hki : (k : Int) < 30 := by omega
      have HS : Hid (∀ W, Calls Tryz.prog 134 #[.int .i64 k, .int .i64 2] W fun e w' => NumPost W (sprd k 2) e w') := fun W => spread_any k 2 W (by omega) (by omega) (by omega) (by omega)
      have hb := sprd_bound k hk
      have HP : Hid (∀ w3, Live w3 d lim n0 { s with least := (sprd k 2).1 + 1, nb := (sprd k 2).2, now := 10 } L (a + m) o V → Step w w3 d o o → ItPost w d lim n0 s L a o (itDist s (L.drop a)) (.returned (.int .i64 0)) w3) := fun w3 hl3 hs3 => by
        rw [HO.out, if_neg (by decide), if_neg (by decide), if_neg h3]
        exact ⟨rfl, o, V, AtS.of hl3 (by simp) (by simp), hs3⟩
      clear HO h3
      go_wp2_with fail
      refine (HS.out _).mono ?_
      rintro e w3 ⟨rfl, hb3⟩
      have HL3 : Hid (Live w3 d lim n0 s L (a + m) o V ∧ Step w w3 d o o) := ⟨HL.out.1.old hb3, HL.out.2.trans (Below.step hb3)⟩
      obtain ⟨g, zs, gone, hd⟩ := HL3.out.1.dk
      have k2 := hd.k2
      have k3 := hd.least
      have k4 := hd.nb
      have fz := hd.fz
      clear hd hb3 HL HS
      generalize sprd k 2 = p at *
      obtain ⟨p1, p2⟩ := p
      simp only at hb HP
      go_wp2
      go_ret
      rw [show ((p1 : Int) + 1) = ((p1 + 1 : Nat) : Int) from rfl]
      obtain ⟨l4, s4⟩ := HL3.out.1.fld (s' := { s with least := p1 + 1, nb := p2, now := 10 }) (fun zs gone hk => (((hk.s_least p1).s_nb p2).s_least ((p1 + 1 : Nat) : Int)).s_now ((10 : Nat) : Int)) (((((Fr.refl _ _ _).snoc _ _).snoc _ _).snoc _ _).snoc _ _) rfl rfl rfl rfl rfl
      exact HP.out _ l4 (HL3.out.2.trans s4)
  · have h0b : (er == 0) = false := by simp; exact h0
    have HP : Hid (ItPost w d lim n0 s L a o (itDist s (L.drop a)) (.returned (.int .i64 er)) w2) := by
      show ItPost _ _ _ _ _ _ _ _ _ _ _
      rw [HO.out]
      by_cases h2 : er = 2
      · rw [if_pos h2, h2]
        have : m = 0 := hn2 h0
        subst this
        exact ⟨rfl, o, V, LiveA.of HL.out.1 (by omega), HL.out.2⟩
      · rw [if_neg h2, if_pos h0]
        exact ⟨rfl, h0, h2, s, _, o, V, HL.out.1, rfl, by omega, HL.out.2⟩
    clear HO HL
    go_wp2
    go_ret
    exact HP.out
end
end Go.Proofs.YtloagniacjfkfaaGreatDoor
/- A word of the literals' code. -/
namespace Go.Proofs.YtloagniacjfkfaaGreatDoor
open Go.RowKit
section
variable {w : World} {d lim n0 : Nat} {s : St} {L : List Int} {a : Nat} {o : Ow} {V : Vs}
theorem ItPost.endB {w w2 w3 : World} {s s2 : St} {o o2 : Ow} {a2 n : Nat} (hs : Step w w2 d o o2) (heb : EbPost w2 d lim n0 s2 L a2 o2 (.returned (.tuple #[])) w3) (ha2 : a2 = a + n) : ItPost w d lim n0 s L a o (Proofs.YtloagniacjfkfaaGreatDoor.endB s2 (L.drop a) n) (.returned (.int .i64 0)) w3 := by
  subst ha2
  obtain ⟨_, o3, V3, h3, s3⟩ := heb
  unfold Proofs.YtloagniacjfkfaaGreatDoor.endB
  by_cases hl : s2.last = true
  · rw [if_pos hl] at h3 ⊢
    refine ⟨rfl, o3, V3, ?_, hs.trans s3⟩
    unfold AtS
    rw [if_pos rfl, List.length_drop]
    rw [show a + (n + (L.length - a - n) % 8) = a + n + (L.length - (a + n)) % 8 by rw [Nat.sub_sub]; omega]
    exact h3
  · rw [if_neg hl] at h3 ⊢
    exact ⟨rfl, o3, V3, AtS.of h3 (by simp) (by simp), hs.trans s3⟩
theorem nxL_len (ns : List Nat) (l : List Int) : (nxL ns l).2.2 ≤ l.length := by
  unfold nxL
  have : ∀ f k, (nxt ns (fun i => (l[i]?.getD 0).toNat) l.length f k).2.2 ≤ l.length := by
    intro f
    induction f with
    | zero => intro k; exact Nat.zero_le _
    | succ f ih =>
      intro k
      rw [nxt]
      split
      · exact Nat.zero_le _
      · split
        · exact ih _
        · split
          · simp only; omega
          · exact Nat.zero_le _
  exact this 15 0
theorem cLen_bound (k : Nat) (h1 : 257 ≤ k) (h2 : k ≤ 285) : (cLen k).1 ≤ 258 ∧ (cLen k).2 ≤ 5 := by
  have : ∀ j, j < 29 → (cLen (257 + j)).1 ≤ 258 ∧ (cLen (257 + j)).2 ≤ 5 := by decide
  have := this (k - 257) (by omega)
  rwa [show 257 + (k - 257) = k by omega] at this
set_option maxHeartbeats 1600000 in
set_option maxRecDepth 20000 in
theorem readSymbol_any (ns : List Nat) (h : Live w d lim n0 s L a o V) (hlim : lim ≤ 1000000) (hnow : s.now = 7) (hla : s.la = some ns) :
    Calls Tryz.prog 115 #[.pointer (some ⟨d, 0, none⟩)] w fun e w' => ItPost w d lim n0 s L a o (itSymbol lim s (L.drop a)) e w' := by
  have hp := h.2.1.c1
  rw [hla] at hp
  obtain ⟨c, hc, hca, hcd⟩ := hp
  have HC : Hid (V.c1 = .pointer (some ⟨c, 0, none⟩)) := hc
  have HT : Hid (∀ n, Calls Tryz.prog 130 #[.pointer (some ⟨c, 0, none⟩), .pointer (some ⟨d, 0, none⟩)] (w.drewN n) fun e w' => RdPost (w.drewN n) d lim n0 s L o V (.tuple #[.int .i64 (nxL ns (L.drop a)).1, .int .i64 (nxL ns (L.drop a)).2.1]) (a + (nxL ns (L.drop a)).2.2) e w') := fun n => live_next c ns (h.drewN n) (hca.old ⟨rfl, rfl, rfl, Nat.le_refl _, fun _ _ => rfl⟩) hcd
  obtain ⟨g, zs, gone, hd⟩ := h.dk
  have kc : w.cell? ⟨d, 32784, none⟩ = some (.pointer (some ⟨c, 0, none⟩)) := by rw [← hc]; exact hd.c1
  have HO : Hid (itSymbol lim s (L.drop a) = if (nxL ns (L.drop a)).2.1 = 2 then .short else if (nxL ns (L.drop a)).2.1 ≠ 0 then .bad (nxL ns (L.drop a)).2.1 s.out else if (nxL ns (L.drop a)).1 < 256 then (if s.out.length = lim then .bad 9 s.out else .ok { s with out := s.out ++ [(nxL ns (L.drop a)).1] } (nxL ns (L.drop a)).2.2) else if (nxL ns (L.drop a)).1 = 256 then endB s (L.drop a) (nxL ns (L.drop a)).2.2 else if 285 < (nxL ns (L.drop a)).1 then .bad 6 s.out else .ok { s with least := (cLen (nxL ns (L.drop a)).1.toNat).1, nb := (cLen (nxL ns (L.drop a)).1.toNat).2, now := 8 } (nxL ns (L.drop a)).2.2) := by
    show _ = _
    unfold itSymbol
    rw [hla]
    rfl
  have hnn : 0 ≤ (nxL ns (L.drop a)).1 := nxt_nonneg ns _ _ 15 0
  have hn2 := nxL_stay ns (L.drop a)
  clear hd h hc hca hcd hla
  generalize nxL ns (L.drop a) = X at *
  obtain ⟨sym, er, m⟩ := X
  simp only at HO HT hnn hn2
  go_enter Tryz.func115, Tryz.ntmps115
  go_wp2
  go_region_held3 (fun W => W.cell? ⟨d, 32784, none⟩ = some (.pointer (some ⟨c, 0, none⟩))) (go_keep) (first
    | (go_at_call 130; refine Calls.mono (HT.out 1) ?_; rintro e w2 ⟨rfl, hl2, hs2⟩; have kc2 : w2.cell? ⟨d, 32784, none⟩ = some (.pointer (some ⟨c, 0, none⟩)) := by obtain ⟨g', zs', gone', hd'⟩ := hl2.dk; rw [← HC.out]; exact hd'.c1)
    | fail)
  have HL : Hid (Live w2 d lim n0 s L (a + m) o V ∧ Step w w2 d o o) := ⟨hl2, hs2.of_drewN⟩
  clear kc kc2 HT hl2 hs2
  by_cases h0 : er = 0
  · subst h0
    have HO2 : Hid (itSymbol lim s (L.drop a) = if sym < 256 then (if s.out.length = lim then .bad 9 s.out else .ok { s with out := s.out ++ [sym] } m) else if sym = 256 then endB s (L.drop a) m else if 285 < sym then .bad 6 s.out else .ok { s with least := (cLen sym.toNat).1, nb := (cLen sym.toNat).2, now := 8 } m) := by
      show _ = _
      rw [HO.out, if_neg (by decide), if_neg (by decide)]
    clear HO
    by_cases h3 : sym < 256
    · have hw8 : IntKind.u8.wrap sym = sym := by rw [IntKind.wrap_u8]; omega
      by_cases hf : s.out.length = lim
      · have HTL := tell_no (d := d) sym HL.out.1 hf
        have HP : Hid (∀ n, ItPost w d lim n0 s L a o (itSymbol lim s (L.drop a)) (.returned (.int .i64 9)) (w2.drewN n)) := fun n => by
          rw [HO2.out, if_pos h3, if_pos hf]
          exact ⟨rfl, by decide, by decide, s, _, o, V, HL.out.1.drewN n, rfl, by omega, HL.out.2.drewN n⟩
        clear HO2 HL hf
        go_wp2_with fail
        refine HTL.mono ?_
        rintro e w3 ⟨rfl, n3, rfl⟩
        go_wp2
        go_ret
        exact HP.out _
      · have HTL := tell_yes sym HL.out.1 (by have := HL.out.1.inv.2; omega) hlim hnn h3
        have HP : Hid (∀ w3, (∃ o' V', Live w3 d lim n0 { s with out := s.out ++ [sym] } L (a + m) o' V' ∧ Step w2 w3 d o o') → ItPost w d lim n0 s L a o (itSymbol lim s (L.drop a)) (.returned (.int .i64 0)) w3) := by
          rintro w3 ⟨o', V', l3, s3⟩
          rw [HO2.out, if_pos h3, if_neg hf]
          exact ⟨rfl, o', V', AtS.of l3 (by simp; omega) (by simp; omega), HL.out.2.trans s3⟩
        clear HO2 HL hf
        go_wp2_with fail
        refine HTL.mono ?_
        rintro e w3 ⟨o', V', rfl, l3, s3⟩
        have HQ : Hid (ItPost w d lim n0 s L a o (itSymbol lim s (L.drop a)) (.returned (.int .i64 0)) w3) := HP.out w3 ⟨o', V', l3, s3⟩
        clear HP HTL l3 s3
        go_wp2
        go_ret
        exact HQ.out
    · by_cases h4 : sym = 256
      · subst h4
        have HEB := endBlock_any HL.out.1
        have HP : Hid (∀ w3, EbPost w2 d lim n0 s L (a + m) o (.returned (.tuple #[])) w3 → ItPost w d lim n0 s L a o (itSymbol lim s (L.drop a)) (.returned (.int .i64 0)) w3) := fun w3 hq => by
          rw [HO2.out, if_neg (by decide), if_pos rfl]
          exact ItPost.endB HL.out.2 hq rfl
        clear HO2 HL
        go_wp2_with fail
        refine HEB.mono ?_
        rintro e w3 hq
        have hq2 := hq
        obtain ⟨rfl, _⟩ := hq2
        have HQ : Hid (ItPost w d lim n0 s L a o (itSymbol lim s (L.drop a)) (.returned (.int .i64 0)) w3) := HP.out w3 hq
        clear HP HEB hq
        go_wp2
        go_ret
        exact HQ.out
      · have h4b : (sym == 256) = false := by simp; exact h4
        have h3' : 256 ≤ sym := by omega
        by_cases h5 : 285 < sym
        · have HP : Hid (ItPost w d lim n0 s L a o (itSymbol lim s (L.drop a)) (.returned (.int .i64 6)) w2) := by
            show ItPost _ _ _ _ _ _ _ _ _ _ _
            rw [HO2.out, if_neg h3, if_neg h4, if_pos h5]
            exact ⟨rfl, by decide, by decide, s, _, o, V, HL.out.1, rfl, by omega, HL.out.2⟩
          clear HO2 HL
          go_wp2
          go_ret
          exact HP.out
        · obtain ⟨k, rfl⟩ := Int.eq_ofNat_of_zero_le hnn
          have hk1 : 257 ≤ k := by omega
          have hk2 : k ≤ 285 := by omega
          have hk2i : (k : Int) ≤ 285 := by omega
          have HS : Hid (∀ W, Calls Tryz.prog 133 #[.int .i64 k] W fun e w' => NumPost W (cLen k) e w') := fun W => copyLength_any k W hk1 hk2
          have hb := cLen_bound k hk1 hk2
          have HP : Hid (∀ w3, Live w3 d lim n0 { s with least := (cLen k).1, nb := (cLen k).2, now := 8 } L (a + m) o V → Step w w3 d o o → ItPost w d lim n0 s L a o (itSymbol lim s (L.drop a)) (.returned (.int .i64 0)) w3) := fun w3 hl3 hs3 => by
            rw [HO2.out, if_neg h3, if_neg h4, if_neg h5]
            exact ⟨rfl, o, V, AtS.of hl3 (by simp) (by simp), hs3⟩
          clear HO2 h3 h4 h5
          go_wp2_with fail
          refine (HS.out _).mono ?_
          rintro e w3 ⟨rfl, hb3⟩
          have HL3 : Hid (Live w3 d lim n0 s L (a + m) o V ∧ Step w w3 d o o) := ⟨HL.out.1.old hb3, HL.out.2.trans (Below.step hb3)⟩
          obtain ⟨g, zs, gone, hd⟩ := HL3.out.1.dk
          have k2 := hd.k2
          have k3 := hd.least
          have k4 := hd.nb
          have fz := hd.fz
          clear hd hb3 HL HS
          generalize cLen k = p at *
          obtain ⟨p1, p2⟩ := p
          simp only at hb HP
          go_wp2
          go_ret
          obtain ⟨l4, s4⟩ := HL3.out.1.fld (s' := { s with least := p1, nb := p2, now := 8 }) (fun zs gone hk => ((hk.s_least p1).s_nb p2).s_now 8) ((((Fr.refl _ _ _).snoc _ _).snoc _ _).snoc _ _) rfl rfl rfl rfl rfl
          exact HP.out _ l4 (HL3.out.2.trans s4)
  · have h0b : (er == 0) = false := by simp; exact h0
    have HP : Hid (ItPost w d lim n0 s L a o (itSymbol lim s (L.drop a)) (.returned (.int .i64 er)) w2) := by
      show ItPost _ _ _ _ _ _ _ _ _ _ _
      rw [HO.out]
      by_cases h2 : er = 2
      · rw [if_pos h2, h2]
        have : m = 0 := hn2 h0
        subst this
        exact ⟨rfl, o, V, LiveA.of HL.out.1 (by omega), HL.out.2⟩
      · rw [if_neg h2, if_pos h0]
        exact ⟨rfl, h0, h2, s, _, o, V, HL.out.1, rfl, by omega, HL.out.2⟩
    clear HO HL
    go_wp2
    go_ret
    exact HP.out
end
end Go.Proofs.YtloagniacjfkfaaGreatDoor
/- Items of a stored block. -/
namespace Go.Proofs.YtloagniacjfkfaaGreatDoor
open Go.RowKit
theorem i64_mask (v : Nat) (m n : Nat) (hm : m = 2 ^ n - 1) (hv : v < 4611686018427387904) (hmm : m < 4611686018427387904) : bits .and .i64 (v : Int) (m : Int) = ((v % 2 ^ n : Nat) : Int) := by
  show IntKind.i64.wrap ((BitVec.ofInt 64 v &&& BitVec.ofInt 64 m).toNat : Nat) = _
  rw [BitVec.toNat_and, BitVec.toNat_ofInt, BitVec.toNat_ofInt]
  have e1 : (((v : Int)) % ((2 ^ 64 : Nat) : Int)).toNat = v := by omega
  have e2 : (((m : Int)) % ((2 ^ 64 : Nat) : Int)).toNat = m := by omega
  rw [e1, e2, hm, Nat.and_two_pow_sub_one_eq_mod, IntKind.wrap_i64]
  have : v % 2 ^ n ≤ v := Nat.mod_le _ _
  omega
theorem bV_split {l : List Int} (hb : Bit l) (k m n : Nat) (h : k + m + n ≤ l.length) : bV l k (m + n) = bV l k m + 2 ^ m * bV l (k + m) n := by
  have h1 : (l.drop k).take (m + n) = (l.drop k).take m ++ (l.drop (k + m)).take n := by rw [List.take_add, List.drop_drop]
  have h2 : ((l.drop k).take m).length = m := by rw [List.length_take, List.length_drop]; omega
  have e : ((bV l k (m + n) : Nat) : Int) = ((bV l k m + 2 ^ m * bV l (k + m) n : Nat) : Int) := by
    rw [bV_int hb, h1, binN_append, h2, Int.natCast_add, Int.natCast_mul, bV_int hb, bV_int hb, Int.natCast_pow]
    rfl
  exact Int.ofNat.inj e
theorem bV_small {l : List Int} (hb : Bit l) (k n : Nat) : bV l k n < 2 ^ n := by
  have h1 := (binN_bound ((hb.drop k).take n)).2
  have h2 : ((l.drop k).take n).length ≤ n := by rw [List.length_take]; omega
  have h3 : (2 : Nat) ^ ((l.drop k).take n).length ≤ 2 ^ n := Nat.pow_le_pow_right (by omega) h2
  have e : (2 : Int) ^ ((l.drop k).take n).length = ((2 ^ ((l.drop k).take n).length : Nat) : Int) := by rw [Int.natCast_pow]; rfl
  have h4 := Nat.two_pow_pos n
  unfold bV
  rw [e] at h1
  omega
section
variable {w : World} {d lim n0 : Nat} {s : St} {L : List Int} {a : Nat} {o : Ow} {V : Vs}
theorem Live.ale (h : Live w d lim n0 s L a o V) : a ≤ L.length := by obtain ⟨⟨zs, gone, _, hr⟩, _⟩ := h; exact hr.le
set_option maxHeartbeats 1600000 in
set_option maxRecDepth 20000 in
theorem readStored_any (h : Live w d lim n0 s L a o V) (hlim : lim ≤ 1000000) (hnow : s.now = 2) (hl1 : 1 ≤ s.left) (hl2 : s.left ≤ 65535) :
    Calls Tryz.prog 110 #[.pointer (some ⟨d, 0, none⟩)] w fun e w' => ItPost w d lim n0 s L a o (itStored lim s (L.drop a)) e w' := by
  have hle2 := h.ale
  by_cases hl : L.length < a + 8
  · have e1 : itStored lim s (L.drop a) = .short := by unfold itStored; rw [if_pos (by rw [List.length_drop]; omega)]
    rw [e1]
    have HT := live_take_no 8 h hl
    clear e1
    go_enter Tryz.func110, Tryz.ntmps110
    go_wp2_with fail
    refine HT.mono ?_
    rintro e w2 ⟨rfl, hl2, hs2⟩
    go_wp2
    go_ret
    exact ⟨rfl, o, V, LiveA.of hl2 (by omega), hs2⟩
  · have HO : Hid (itStored lim s (L.drop a) = if s.out.length = lim then .bad 9 s.out else if s.left = 1 then endB { s with out := s.out ++ [(bV (L.drop a) 0 8 : Int)], left := 0 } (L.drop a) 8 else .ok { s with out := s.out ++ [(bV (L.drop a) 0 8 : Int)], left := s.left - 1 } 8) := by
      show _ = _
      unfold itStored
      rw [if_neg (by rw [List.length_drop]; omega)]
    have HT := live_take 8 h (by omega) (by omega)
    have hb : bV (L.drop a) 0 8 < 256 := bV_small (h.bit.drop a) 0 8
    clear h
    generalize bV (L.drop a) 0 8 = B at *
    have hw8 : IntKind.u8.wrap (B : Int) = (B : Int) := by rw [IntKind.wrap_u8]; omega
    go_enter Tryz.func110, Tryz.ntmps110
    go_wp2_with fail
    refine HT.mono ?_
    rintro e w2 ⟨rfl, hl2', hs2⟩
    have HL : Hid (Live w2 d lim n0 s L (a + 8) o V ∧ Step w w2 d o o) := ⟨hl2', hs2⟩
    clear HT hl2' hs2
    by_cases hf : s.out.length = lim
    · have HTL := tell_no (d := d) (B : Int) HL.out.1 hf
      have HP : Hid (∀ n, ItPost w d lim n0 s L a o (itStored lim s (L.drop a)) (.returned (.int .i64 9)) (w2.drewN n)) := fun n => by
        rw [HO.out, if_pos hf]
        exact ⟨rfl, by decide, by decide, s, _, o, V, HL.out.1.drewN n, rfl, by omega, HL.out.2.drewN n⟩
      clear HO HL hf
      go_wp2_with fail
      refine HTL.mono ?_
      rintro e w3 ⟨rfl, n3, rfl⟩
      go_wp2
      go_ret
      exact HP.out _
    · have HTL := tell_yes (B : Int) HL.out.1 (by have := HL.out.1.inv.2; omega) hlim (by omega) (by omega)
      go_wp2_with fail
      refine HTL.mono ?_
      rintro e w3 ⟨o3, V3, rfl, l3, s3⟩
      obtain ⟨g, zs, gone, hd⟩ := l3.dk
      have k9 : w3.cell? ⟨d, 32777, none⟩ = some (.int .i64 s.left) := hd.left
      have fz := hd.fz
      have HL3 : Hid (Live w3 d lim n0 { s with out := s.out ++ [(B : Int)] } L (a + 8) o3 V3 ∧ Step w w3 d o o3) := ⟨l3, HL.out.2.trans s3⟩
      clear hd l3 s3 HTL HL
      by_cases h1 : s.left = 1
      · rw [h1] at k9
        have HP : Hid (∀ w4, EbPost (w3.setCell ⟨d, 32777, none⟩ (.int .i64 0)) d lim n0 { s with out := s.out ++ [(B : Int)], left := 0 } L (a + 8) o3 (.returned (.tuple #[])) w4 → ItPost w d lim n0 s L a o (itStored lim s (L.drop a)) (.returned (.int .i64 0)) w4) := fun w4 hq => by
          obtain ⟨l4, s4⟩ := HL3.out.1.fld (s' := { s with out := s.out ++ [(B : Int)], left := 0 }) (fun zs gone hk => hk.s_left 0) ((Fr.refl _ _ _).snoc _ _) rfl rfl rfl rfl rfl
          rw [HO.out, if_neg hf, if_pos h1]
          exact ItPost.endB (HL3.out.2.trans s4) hq rfl
        have HEB : Hid (Calls Tryz.prog 127 #[.pointer (some ⟨d, 0, none⟩)] (w3.setCell ⟨d, 32777, none⟩ (.int .i64 0)) fun e w' => EbPost (w3.setCell ⟨d, 32777, none⟩ (.int .i64 0)) d lim n0 { s with out := s.out ++ [(B : Int)], left := 0 } L (a + 8) o3 e w') := by
          obtain ⟨l4, s4⟩ := HL3.out.1.fld (s' := { s with out := s.out ++ [(B : Int)], left := 0 }) (fun zs gone hk => hk.s_left 0) ((Fr.refl _ _ _).snoc _ _) rfl rfl rfl rfl rfl
          exact endBlock_any l4
        clear HO HL3 h1 hl1 hl2 hf
        go_wp2_with fail
        refine HEB.out.mono ?_
        rintro e w4 hq
        have hq2 := hq
        obtain ⟨rfl, _⟩ := hq2
        have HQ : Hid (ItPost w d lim n0 s L a o (itStored lim s (L.drop a)) (.returned (.int .i64 0)) w4) := HP.out w4 hq
        clear HP HEB hq
        go_wp2
        go_ret
        exact HQ.out
      · obtain ⟨m, hm⟩ : ∃ m, s.left - 1 = m := ⟨_, rfl⟩
        have hmi : (s.left : Int) - 1 = (m : Int) := by omega
        have hm0 : ((m : Int) == 0) = false := by simp; omega
        have HP : Hid (ItPost w d lim n0 s L a o (itStored lim s (L.drop a)) (.returned (.int .i64 0)) (w3.setCell ⟨d, 32777, none⟩ (.int .i64 m))) := by
          show ItPost _ _ _ _ _ _ _ _ _ _ _
          obtain ⟨l4, s4⟩ := HL3.out.1.fld (s' := { s with out := s.out ++ [(B : Int)], left := m }) (fun zs gone hk => hk.s_left m) ((Fr.refl _ _ _).snoc _ _) rfl rfl rfl rfl rfl
          rw [HO.out, if_neg hf, if_neg h1, hm]
          exact ⟨rfl, o3, V3, AtS.of l4 (by simp only; omega) (by simp only; omega), HL3.out.2.trans s4⟩
        clear HO HL3 hf h1
        go_wp2
        go_ret
        exact HP.out
end
end Go.Proofs.YtloagniacjfkfaaGreatDoor
