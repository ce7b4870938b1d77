/- A PNG's decoder: read of bytes that begin no chunk. -/
import Derived.Test.YtpjcdfinlclhoaaGreatDoorPgA
import Derived.Test.YtpjcdfinlclhoaaGreatDoorRfL
import Derived.WalkMore
namespace Go.Proofs.YtpjcdfinlclhoaaGreatDoor
open Go.RowKit
theorem results_cell2G {fn : Func} {p q : Tmp} {ty tz : TypeId} (h : fn.results = #[.cell p ty, .cell q tz]) (tmps : Array Value) (P : Program) (w : World) :
    (results fn tmps).run P w = ((asAddr (tmps.getD p undef)).run P w).andThen fun a w₁ => ((loadVar ty a).run P w₁).andThen fun v w₂ => ((asAddr (tmps.getD q undef)).run P w₂).andThen fun b w₃ => ((loadVar tz b).run P w₃).andThen fun u w₄ => .ok (.tuple #[v, u]) w₄ := by
  simp only [results, h]
  simp [Sem.run_bind]
theorem DcM.cells {w : World} {d : Nat} {er seen : Int} {cp : Value} (h : DcM w d er seen cp) : w.cell? ⟨d, 0, none⟩ = some (.int .i64 er) ∧ w.cell? ⟨d, 1, none⟩ = some (.int .i64 seen) ∧ w.cell? ⟨d, 2, none⟩ = some cp ∧ w.cell? ⟨d, 9, none⟩ = some (.bool false) ∧ (∀ j, w.frozen? ⟨d, j, none⟩ = false) := by
  unfold DcM DcA at h
  refine ⟨?_, ?_, ?_, ?_, fun j => ?_⟩ <;> simp [World.cell?, World.frozen?, h]
theorem DcM.same {w w' : World} {d : Nat} {er seen : Int} {cp : Value} (h : DcM w d er seen cp) (hs : w'.heap[d]? = w.heap[d]?) : DcM w' d er seen cp := hs.trans h
theorem DcM.seen {w : World} {d : Nat} {er seen : Int} {cp : Value} (h : DcM w d er seen cp) (s : Int) : DcM (w.setCell ⟨d, 1, none⟩ (.int .i64 s)) d er s cp := by
  unfold DcM at h ⊢
  rw [heap_setCell_same w d 1 _ _ _ h]; rfl
/-- What the decoder's calls change. -/
structure Fd (w w' : World) (d p : Nat) : Prop where
  os : w'.os = w.os
  tape : w'.tape = w.tape
  output : w'.output = w.output
  size : w.heap.size ≤ w'.heap.size
  block : ∀ k, k < w.heap.size → k ≠ d → k ≠ p → w'.heap[k]? = w.heap[k]?
theorem Fd.trans {a b c : World} {d p : Nat} (h : Fd a b d p) (k : Fd b c d p) : Fd a c d p := ⟨k.os.trans h.os, k.tape.trans h.tape, k.output.trans h.output, Nat.le_trans h.size k.size, fun j hj h1 h2 => (k.block j (by have := h.size; omega) h1 h2).trans (h.block j hj h1 h2)⟩
theorem Fd.of_below {a b : World} (d p : Nat) (h : Below a.heap.size a b) : Fd a b d p := ⟨h.os, h.tape, h.output, h.size, fun k hk _ _ => h.block k hk⟩
theorem Fd.of_fr {a b : World} {p : Nat} (d : Nat) (h : Fr a b p none) : Fd a b d p := ⟨h.os, h.tape, h.output, h.size, fun k hk _ h2 => h.block k hk h2 (by simp)⟩
theorem Fd.set (w : World) (d p i : Nat) (v : Value) : Fd w (w.setCell ⟨d, i, none⟩ v) d p := by
  have b := (Below.refl d w).setCell (p := ⟨d, i, none⟩) (Nat.le_refl _) v
  exact ⟨b.os, b.tape, b.output, b.size, fun k _ h1 _ => Below.heap_setCell _ _ _ _ h1⟩
def RdPg (w : World) (d p : Nat) (pre : List Int) (seen er : Int) (e : Ending) (w' : World) : Prop :=
  e = .returned (.tuple #[.slice none 0 0, .int .i64 er]) ∧ Fd w w' d p ∧ DcM w' d 0 seen (.pointer (some ⟨p, 0, none⟩)) ∧ (er = 0 → Rdy w' p pre)
set_option maxHeartbeats 3200000 in
set_option maxRecDepth 20000 in
theorem pread_any {w : World} {d p : Nat} {pre bs : List Int} {er2 : Int} (seen : Nat) (hseen : seen ≤ 100) (hbb : Bytes bs) (av : Option Addr) (m c : Nat) (hm : bs.length = m) (hb1 : m ≤ 100) (hmc : m ≤ c) (hcm : c ≤ 100) (hc0 : av = none → c = 0) (hrow : Row w av bs) (hne : ∀ x, av = some x → bs ≠ [] → x.block ≠ p ∧ x.block ≠ d) (hpd : p ≠ d) (hd : DcM w d 0 seen (.pointer (some ⟨p, 0, none⟩))) (h : Rdy w p pre) (ho : ofAll (pre ++ bs) = ([], er2)) (he2 : er2 = 2 ∨ er2 = 3) (E : Int) (hE : (if er2 = 2 then 0 else er2) = E) :
    Calls Tryz.prog 15 #[.pointer (some ⟨d, 0, none⟩), .slice av m c] w fun e w' => RdPg w d p (pre ++ bs) ((seen : Int) + m) E e w' := by
  obtain ⟨w1, hw1⟩ : ∃ w1, (w.alloc (.cells #[.slice none 0 0] 42)).alloc (.cells #[.int .i64 0] 26) = w1 := ⟨_, rfl⟩
  have hb1' : Below w.heap.size w w1 := by rw [← hw1]; exact ((Below.refl _ w).alloc (Nat.le_refl _) _).alloc (by simp) _
  have hd1 : DcM w1 d 0 seen (.pointer (some ⟨p, 0, none⟩)) := hd.same (hb1'.block _ (lt_of_block hd))
  obtain ⟨k0, k1, k2, k9, kf⟩ := hd1.cells
  obtain ⟨w2, hw2⟩ : ∃ w2, w1.setCell ⟨d, 1, none⟩ (.int .i64 ((seen : Int) + m)) = w2 := ⟨_, rfl⟩
  have hd2 : DcM w2 d 0 ((seen : Int) + m) (.pointer (some ⟨p, 0, none⟩)) := by rw [← hw2]; exact hd1.seen _
  have hdl : d < w.heap.size := lt_of_block hd
  have hot : ∀ k, k ≠ d → w2.heap[k]? = w1.heap[k]? := fun k hk => by rw [← hw2]; exact Below.heap_setCell _ _ _ _ hk
  have hr2 : Rdy w2 p pre := h.same ((hot p hpd).trans (hb1'.block _ h.lt))
  have hrow2 : Row w2 av bs := by
    rcases hrow with e | ⟨b, off, e, hc⟩
    · exact .inl e
    · by_cases hz : bs = []
      · exact .inl hz
      · have hbl := cell_lt (hc 0 (List.length_pos_iff.2 hz))
        have hbd := (hne _ e hz).2
        exact .inr ⟨b, off, e, fun i hi => (World.cell?_of_block (a := ⟨b, off + i, none⟩) ((hot b hbd).trans (hb1'.block b hbl))).trans (hc i hi)⟩
  have CP := push_quiet hbb av m c hm (by omega) hmc (by omega) hc0 hrow2 (fun x hx hz => (hne x hx hz).1) hr2 ho he2
  rw [hE] at CP
  have HF : Hid (Fd w w2 d p) := by
    have f1 := Fd.of_below d p hb1'
    have f2 := Fd.set w1 d p 1 (.int .i64 ((seen : Int) + m))
    rw [hw2] at f2
    exact f1.trans f2
  have hs1 : w1.heap.size = w.heap.size + 2 := by rw [← hw1]; simp
  have r4 : w2.heap[w.heap.size]? = some (.cells #[.slice none 0 0] 42 (0, 0)) := by
    rw [hot _ (by omega), ← hw1, Below.heap_alloc _ _ _ (by simp)]; exact heap_alloc_newG w _
  have r5 : w2.heap[w.heap.size + 1]? = some (.cells #[.int .i64 0] 26 (0, 0)) := by
    rw [hot _ (by omega), ← hw1]
    have := heap_alloc_newG (w.alloc (.cells #[.slice none 0 0] 42)) (.cells #[.int .i64 0] 26); rwa [World.size_alloc] at this
  have HR : Hid (w2.heap[w.heap.size]? = some (.cells #[.slice none 0 0] 42 (0, 0)) ∧ w2.heap[w.heap.size + 1]? = some (.cells #[.int .i64 0] 26 (0, 0)) ∧ DcM w2 d 0 ((seen : Int) + m) (.pointer (some ⟨p, 0, none⟩)) ∧ p < w.heap.size ∧ d < w.heap.size ∧ p ≠ d) := ⟨r4, r5, hd2, h.lt, hdl, hpd⟩
  obtain ⟨-, -, j2, j9, -⟩ := hd2.cells
  have hn1 : (m : Int) < 1048576 - (seen : Int) := by omega
  have hmin : min (m : Int) (1048576 - (seen : Int)) = (m : Int) := by omega
  have hmax : max (m : Int) 0 = (m : Int) := by omega
  have hmlt : ¬ (m : Int) < (m : Int) := by omega
  have hE3 : E = 0 ∨ E = 3 := by rcases he2 with h | h <;> subst h <;> simp at hE <;> omega
  clear hd hd1 hd2 hot hr2 hrow2 hrow hne h ho he2 hE hbb hm r4 r5 hb1' hdl hpd hs1
  have HE3 : Hid (E = 0 ∨ E = 3) := hE3
  clear hE3
  refine calls_of_wp_marks Tryz.func15 rfl ?_
  simp only [Tryz.ntmps15, List.size_toArray, List.length_cons, List.length_nil, Nat.reduceAdd, Nat.reduceSub, Array.replicate_succ, Array.replicate_zero, List.push_toArray, List.append_toArray, List.nil_append, List.cons_append]
  go_wp2_with fail
  go_step3
  go_wp2_with fail
  refine CP.mono ?_
  clear CP
  rintro e w3 ⟨a3, c3, rfl, hfr, hrd⟩
  have HW3 : Hid (Fd w w3 d p ∧ DcM w3 d 0 ((seen : Int) + m) (.pointer (some ⟨p, 0, none⟩)) ∧ (E = 0 → Rdy w3 p (pre ++ bs)) ∧ w3.heap[w.heap.size]? = some (.cells #[.slice none 0 0] 42 (0, 0)) ∧ w3.heap[w.heap.size + 1]? = some (.cells #[.int .i64 0] 26 (0, 0))) := by
    obtain ⟨q4, q5, qd, qp, qdl, qne⟩ := HR.out
    refine ⟨HF.out.trans (Fd.of_fr d hfr), qd.same (hfr.block d (lt_of_block qd) qne.symm (by simp)), hrd, (hfr.block _ (lt_of_block q4) (by omega) (by simp)).trans q4, (hfr.block _ (lt_of_block q5) (by omega) (by simp)).trans q5⟩
  have HPD : Hid (p < w.heap.size ∧ d < w.heap.size) := ⟨HR.out.2.2.2.1, HR.out.2.2.2.2.1⟩
  clear hfr hrd HR HF hw1 hw2 k0 k1 k2 k9 kf j2 j9
  obtain ⟨-, -, j2, j9, jf⟩ := HW3.out.2.1.cells
  have e4 : w3.cell? ⟨w.heap.size, 0, none⟩ = some (.slice none 0 0) := by have := HW3.out.2.2.2.1; simp [World.cell?, this]
  have e5 : w3.cell? ⟨w.heap.size + 1, 0, none⟩ = some (.int .i64 0) := by have := HW3.out.2.2.2.2; simp [World.cell?, this]
  have f4 : w3.frozen? ⟨w.heap.size, 0, none⟩ = false := by have := HW3.out.2.2.2.1; simp [World.frozen?, this]
  have f5 : w3.frozen? ⟨w.heap.size + 1, 0, none⟩ = false := by have := HW3.out.2.2.2.2; simp [World.frozen?, this]
  have HFin : Hid (∀ E, (E = 0 → Rdy w3 p (pre ++ bs)) → RdPg w d p (pre ++ bs) ((seen : Int) + m) E (.returned (.tuple #[.slice none 0 0, .int .i64 E])) ((w3.setCell ⟨w.heap.size, 0, none⟩ (.slice none 0 0)).setCell ⟨w.heap.size + 1, 0, none⟩ (.int .i64 E))) := fun E hE => by
    obtain ⟨q1, q2, _, q4, q5⟩ := HW3.out
    have hpl : p < w.heap.size := HPD.out.1
    have hdl : d < w.heap.size := HPD.out.2
    have o1 : ∀ k (E : Int), k < w.heap.size → ((w3.setCell ⟨w.heap.size, 0, none⟩ (.slice none 0 0)).setCell ⟨w.heap.size + 1, 0, none⟩ (.int .i64 E)).heap[k]? = w3.heap[k]? := fun k E hk => by
      rw [Below.heap_setCell _ _ _ _ (show k ≠ w.heap.size + 1 by omega), Below.heap_setCell _ _ _ _ (show k ≠ w.heap.size by omega)]
    have b := ((Below.refl w.heap.size w3).setCell (p := ⟨w.heap.size, 0, none⟩) (Nat.le_refl _) (.slice none 0 0)).setCell (p := ⟨w.heap.size + 1, 0, none⟩) (Nat.le_succ _) (.int .i64 E)
    refine ⟨rfl, ⟨b.os.trans q1.os, b.tape.trans q1.tape, b.output.trans q1.output, Nat.le_trans q1.size b.size, fun k hk h1 h2 => (o1 k E hk).trans (q1.block k hk h1 h2)⟩, q2.same (o1 d E hdl), fun h0 => (hE h0).same (o1 p E hpl)⟩
  rcases HE3.out with h0 | h3
  · subst h0
    have HGG : Hid (RdPg w d p (pre ++ bs) ((seen : Int) + m) 0 (.returned (.tuple #[.slice none 0 0, .int .i64 0])) ((w3.setCell ⟨w.heap.size, 0, none⟩ (.slice none 0 0)).setCell ⟨w.heap.size + 1, 0, none⟩ (.int .i64 0))) := HFin.out 0 HW3.out.2.2.1
    clear HFin HW3
    go_wp2
    go_step3
    go_wp2
    go_loopw [10, 11, 12, 43] (fun _ _ _ i wr => i = .int .i64 0 ∧ wr = w3) (fun _ _ _ _ _ => 0)
    case atStart => exact ⟨rfl, rfl⟩
    case round =>
      obtain ⟨rfl, rfl⟩ := hrel
      go_wp2
      rw [Exit.noGoto_ret]
      refine ⟨.tuple #[.slice none 0 0, .int .i64 0], ?_, HGG.out⟩
      rw [results_cell2G rfl]
      go_simp
  · subst h3
    have HGG : Hid (RdPg w d p (pre ++ bs) ((seen : Int) + m) 3 (.returned (.tuple #[.slice none 0 0, .int .i64 3])) ((w3.setCell ⟨w.heap.size, 0, none⟩ (.slice none 0 0)).setCell ⟨w.heap.size + 1, 0, none⟩ (.int .i64 3))) := HFin.out 3 (fun h => by omega)
    clear HFin HW3
    go_wp2
    go_step3
    go_wp2
    go_loopw [10, 11, 12, 43] (fun _ _ _ i wr => i = .int .i64 0 ∧ wr = w3) (fun _ _ _ _ _ => 0)
    case atStart => exact ⟨rfl, rfl⟩
    case round =>
      obtain ⟨rfl, rfl⟩ := hrel
      go_wp2
      rw [Exit.noGoto_ret]
      refine ⟨.tuple #[.slice none 0 0, .int .i64 3], ?_, HGG.out⟩
      rw [results_cell2G rfl]
      go_simp
end Go.Proofs.YtpjcdfinlclhoaaGreatDoor
