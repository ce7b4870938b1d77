/- The receiver: what was told, in memory; the document's SameRanges and SameParts of what is the same. -/
import Derived.Test.YtmfciheenemapaaRqH
import Derived.Test.YtmfciheenemapaaSmC
import Derived.Deep.RegionHeld3
namespace Go.Proofs.Ytmfciheenemapaa
open Go.RowKit
/-- Parts that were told. -/
def TdM (w : World) (b m : Nat) (v : Value) (P : List Pt) : Prop := ∃ g, Sl w 32 v g (pvl P) ∧ (∀ k, g = some k → k ≠ b ∧ k ≠ m) ∧ ∀ q ∈ P, PtOk w q
theorem TdM.f2 {w w' : World} {b m : Nat} {v : Value} {P : List Pt} (h : TdM w b m v P) {n W nx : Int} {H : List (Int × Pt)} (hr : Rc w b m n W nx H) (f : F2 b m w w') : TdM w' b m v P := by
  obtain ⟨g, h1, h2, h3⟩ := h
  exact ⟨g, h1.same fun k hk => f.block k (h1.lt hk) (h2 k hk).1 (h2 k hk).2, h2, fun q hq => f.pt hr (h3 q hq)⟩
theorem TdM.old {w w' : World} {b m : Nat} {v : Value} {P : List Pt} (h : TdM w b m v P) (f : Below w.heap.size w w') : TdM w' b m v P := by
  obtain ⟨g, h1, h2, h3⟩ := h
  exact ⟨g, h1.same fun k hk => f.block k (h1.lt hk), h2, fun q hq => pt_old (h3 q hq) f⟩
theorem TdM.shape {w : World} {b m : Nat} {v : Value} {P : List Pt} (h : TdM w b m v P) : ∃ a c, v = .slice a P.length c := by
  obtain ⟨g, h1, h2, h3⟩ := h
  obtain ⟨a, c, hv, -⟩ := h1.shape
  refine ⟨a, c, ?_⟩
  rw [hv]
  unfold pvl
  rw [List.length_map]
/-- Parts that lie in memory. -/
def PsM (w : World) (a : Option Addr) (P : List Pt) : Prop := P = [] ∨ ∃ b off, a = some ⟨b, off, none⟩ ∧ ∀ i q, P[i]? = some q → w.cell? ⟨b, off + i, none⟩ = some (ptV q) ∧ PtOk w q
theorem PsM.old {w w' : World} {a : Option Addr} {P : List Pt} (h : PsM w a P) (f : Below w.heap.size w w') : PsM w' a P := by
  rcases h with h | ⟨b, off, ha, h⟩
  · exact .inl h
  · exact .inr ⟨b, off, ha, fun i q hq => ⟨(f.cell (p := ⟨b, off + i, none⟩) (cell_lt (h i q hq).1)).trans (h i q hq).1, pt_old (h i q hq).2 f⟩⟩
theorem TdM.ps {w : World} {b m : Nat} {a : Option Addr} {n c : Nat} {P : List Pt} (h : TdM w b m (.slice a n c) P) : PsM w a P := by
  obtain ⟨g, h1, h2, h3⟩ := h
  cases P with
  | nil => exact .inl rfl
  | cons p r =>
    rcases h1 with ⟨_, _, e⟩ | ⟨ob, off, cap, cur, e, eg, hh, q1, q2, q3, q4⟩
    · simp [pvl] at e
    · simp only [Value.slice.injEq] at e
      refine .inr ⟨ob, off, e.1, fun i q hq => ⟨?_, h3 q (List.mem_of_getElem? hq)⟩⟩
      have hi : i < (pvl (p :: r)).length := by
        obtain ⟨hi, _⟩ := List.getElem?_eq_some_iff.1 hq
        unfold pvl
        rw [List.length_map]
        exact hi
      have := q4 i hi
      simp only [World.cell?, hh]
      rw [this]
      unfold pvl
      rw [List.getElem?_map, hq]
      rfl
theorem relN_mem : ∀ (H : List (Int × Pt)) (nx : Int) (q : Pt), q ∈ (relN nx H).1 → ∃ k, (k, q) ∈ H
  | [], _, q, h => by simp [relN] at h
  | (k, p) :: r, nx, q, h => by
    unfold relN at h
    split at h
    · simp only [List.mem_cons] at h
      rcases h with rfl | h
      · exact ⟨k, by simp⟩
      · obtain ⟨k', hk⟩ := relN_mem r _ q h
        exact ⟨k', by simp [hk]⟩
    · simp at h
/-- What Take leaves when the item may come. -/
def TkZ (w : World) (b m : Nat) (n W nx : Int) (H : List (Int × Pt)) (i : Int) (zs : List Int) (e : Ending) (w' : World) : Prop :=
  ∃ (q : Pt) (a : Option Addr) (c : Nat), q.z = zs ∧ (∀ x, q.a = some x → w.heap.size ≤ x.block) ∧ e = .returned (.tuple #[.slice a (relN nx (hIns i q H)).1.length c, .bool true]) ∧ TdM w' b m (.slice a (relN nx (hIns i q H)).1.length c) (relN nx (hIns i q H)).1 ∧ F2 b m w w' ∧ Rc w' b m n W (relN nx (hIns i q H)).2.1 (relN nx (hIns i q H)).2.2
theorem take_z {w : World} {b m : Nat} {n W nx : Int} {H : List (Int × Pt)} (h : Rc w b m n W nx H) (i : Int) (hi : (Lit.int .i64 i).wf = true) {a : Option Addr} {N c : Nat} {zs : List Int} (hn : zs.length = N) (hnil : a = none → c = 0) (hl : N ≤ 1000000) (hb : Bytes zs) (hr : Row w a zs) (hmc : mcB n W nx H i = true) : Calls Try.prog 11 #[.pointer (some ⟨b, 0, none⟩), .int .i64 i, .slice a N c] w fun e w' => TkZ w b m n W nx H i zs e w' := by
  refine (take_yes h i hi hn hnil hl hb hr hmc).mono ?_
  rintro e w' ⟨q, q1, q2, q3, v, g, rfl, q4, q5, q6, q7⟩
  have ht : TdM w' b m v (relN nx (hIns i q H)).1 := by
    refine ⟨g, q4, fun k hk => ?_, fun p hp => ?_⟩
    · have := q5 k hk
      have h1 := lt_of_block h.c
      have h2 := h.m.lt
      exact ⟨by omega, by omega⟩
    · obtain ⟨k, hk⟩ := relN_mem _ _ _ hp
      rcases (hIns_mem i q (k, p) H).1 hk with e | hk
      · cases e; exact q3
      · exact q6.pt h (h.ok (k, p) hk)
  obtain ⟨a', c', rfl⟩ := ht.shape
  exact ⟨q, a', c', q1, q2, rfl, ht, q6, q7⟩
theorem Try.isArr2 : Try.prog.underlying 48 = some (.array 2 3) := by kernel_rfl
theorem eq_arr2 (a b a' b' : Int) (w : World) : (Op.equalIn 10000 48 (.agg #[.int .i64 a, .int .i64 b]) (.agg #[.int .i64 a', .int .i64 b'])).run Try.prog w = .ok (a == a' && b == b') w := by
  have u3 := Try.underlying3
  have a3 := Try.isAgg3
  have z3 := Try.sizeOf3
  rw [show (10000 : Nat) = 9999 + 1 from rfl, Op.equalIn]
  simp only [Sem.run_bind, run_underlying Try.isArr2, Result.andThen_ok]
  simp only [Std.Legacy.Range.forIn_eq_forIn_range', Std.Legacy.Range.size, Nat.sub_zero, Nat.add_sub_cancel, Nat.div_one, List.range'_succ, List.range'_zero, List.forIn_cons, List.forIn_nil]
  go_simp
  by_cases h1 : a = a' <;> by_cases h2 : b = b' <;> simp [h1, h2]
theorem below_drewR (w : World) : Below w.heap.size w w.drew := ⟨rfl, rfl, rfl, Nat.le_refl _, fun _ _ => rfl⟩
set_option maxHeartbeats 6400000 in
theorem sameR_yes (a b : Option Addr) (n ca cb : Nat) (G : List (Int × Int)) (w : World) (hn : G.length = n) (hr : n ≤ 1000) (r1 : RgR w a G) (r2 : RgR w b G) :
    Calls Try.prog 18 #[.slice a n ca, .slice b n cb] w fun e w' => e = .returned (.bool true) ∧ Below w.heap.size w w' := by
  have HR1 : Hid (∀ u, Below w.heap.size w u → RgR u a G) := fun u hu => r1.old hu
  have HR2 : Hid (∀ u, Below w.heap.size w u → RgR u b G) := fun u hu => r2.old hu
  have HN : Hid (G.length = n) := hn
  clear hn r1 r2
  go_enter Try.func18, Try.ntmps18
  go_wp2
  go_loopw [5, 13] (fun _ t wr => ∃ j : Nat, j ≤ n ∧ t = .int .i64 j ∧ Hid (Below w.heap.size w wr)) (fun _ t _ => n - (intOf t).toNat)
  case atStart => exact ⟨0, Nat.zero_le _, rfl, Below.refl _ _⟩
  case round =>
    obtain ⟨j, hj, rfl, HB⟩ := hrel
    by_cases hlt : j < n
    · obtain ⟨b1, o1, rfl, q1⟩ : ∃ b off, a = some ⟨b, off, none⟩ ∧ ∀ i, i < G.length → wr.cell? ⟨b, off + i * 2, none⟩ = some (.int .i64 (gx G i)) ∧ wr.cell? ⟨b, off + i * 2 + 1, none⟩ = some (.int .i64 (gy G i)) := by
        rcases HR1.out wr HB.out with e | e
        · have := HN.out; rw [e] at this; simp at this; omega
        · exact e
      obtain ⟨b2, o2, rfl, q2⟩ : ∃ b' off, b = some ⟨b', off, none⟩ ∧ ∀ i, i < G.length → wr.cell? ⟨b', off + i * 2, none⟩ = some (.int .i64 (gx G i)) ∧ wr.cell? ⟨b', off + i * 2 + 1, none⟩ = some (.int .i64 (gy G i)) := by
        rcases HR2.out wr HB.out with e | e
        · have := HN.out; rw [e] at this; simp at this; omega
        · exact e
      obtain ⟨x0, x1⟩ := q1 j (by rw [HN.out]; exact hlt)
      obtain ⟨y0, y1⟩ := q2 j (by rw [HN.out]; exact hlt)
      clear q1 q2
      generalize gx G j = X at *
      generalize gy G j = Y at *
      have heq : ∀ u : World, (Op.equalIn 10000 48 (.agg #[.int .i64 X, .int .i64 Y]) (.agg #[.int .i64 X, .int .i64 Y])).run Try.prog u = .ok true u := fun u => by rw [eq_arr2]; simp
      have HBd : Hid (Below w.heap.size w wr.drew) := HB.out.trans ((below_drewR wr).mono HB.out.size)
      go_upto_region 6 with fail
      go_region_held3 (fun u => u.cell? ⟨b1, o1 + j * 2, none⟩ = some (.int .i64 X) ∧ u.cell? ⟨b1, o1 + j * 2 + 1, none⟩ = some (.int .i64 Y) ∧ u.cell? ⟨b2, o2 + j * 2, none⟩ = some (.int .i64 X) ∧ u.cell? ⟨b2, o2 + j * 2 + 1, none⟩ = some (.int .i64 Y)) (first | (with_reducible exact ⟨x0, x1, y0, y1⟩) | go_keep) (first | fail)
      go_wp2
      go_roundw
      case rel => exact ⟨j + 1, by omega, by go_num, HBd⟩
      case measure => simp [intOf]; omega
    · go_wp2
      go_ret
      exact ⟨rfl, HB.out⟩
set_option maxHeartbeats 6400000 in
theorem sameP_yes (a b : Option Addr) (n ca cb : Nat) (P Q : List Pt) (w : World) (hr : n ≤ 100000) (hp : P.length = n) (hq : Q.length = n) (hz : ∀ i : Nat, (P[i]?).map Pt.z = (Q[i]?).map Pt.z) (r1 : PsM w a P) (r2 : PsM w b Q) :
    Calls Try.prog 13 #[.slice a n ca, .slice b n cb] w fun e w' => e = .returned (.bool true) ∧ Below w.heap.size w w' := by
  have HR1 : Hid (∀ u, Below w.heap.size w u → PsM u a P) := fun u hu => r1.old hu
  have HR2 : Hid (∀ u, Below w.heap.size w u → PsM u b Q) := fun u hu => r2.old hu
  have HN : Hid (P.length = n ∧ Q.length = n ∧ ∀ i : Nat, (P[i]?).map Pt.z = (Q[i]?).map Pt.z) := ⟨hp, hq, hz⟩
  clear hp hq hz r1 r2
  go_enter Try.func13, Try.ntmps13
  go_wp2
  go_loopw [5, 13] (fun _ t wr => ∃ j : Nat, j ≤ n ∧ t = .int .i64 j ∧ Hid (Below w.heap.size w wr)) (fun _ t _ => n - (intOf t).toNat)
  case atStart => exact ⟨0, Nat.zero_le _, rfl, Below.refl _ _⟩
  case round =>
    obtain ⟨j, hj, rfl, HB⟩ := hrel
    by_cases hlt : j < n
    · obtain ⟨p, hp⟩ : ∃ p, P[j]? = some p := ⟨_, List.getElem?_eq_getElem (by rw [HN.out.1]; exact hlt)⟩
      obtain ⟨q, hq⟩ : ∃ q, Q[j]? = some q := ⟨_, List.getElem?_eq_getElem (by rw [HN.out.2.1]; exact hlt)⟩
      have hz := HN.out.2.2 j
      rw [hp, hq] at hz
      simp only [Option.map_some, Option.some.injEq] at hz
      obtain ⟨b1, o1, rfl, q1⟩ : ∃ b off, a = some ⟨b, off, none⟩ ∧ ∀ i q, P[i]? = some q → wr.cell? ⟨b, off + i, none⟩ = some (ptV q) ∧ PtOk wr q := by
        rcases HR1.out wr HB.out with e | e
        · rw [e] at hp; simp at hp
        · exact e
      obtain ⟨b2, o2, rfl, q2⟩ : ∃ b' off, b = some ⟨b', off, none⟩ ∧ ∀ i q, Q[i]? = some q → wr.cell? ⟨b', off + i, none⟩ = some (ptV q) ∧ PtOk wr q := by
        rcases HR2.out wr HB.out with e | e
        · rw [e] at hq; simp at hq
        · exact e
      obtain ⟨x0, x1⟩ := q1 j p hp
      obtain ⟨y0, y1⟩ := q2 j q hq
      have HBd : Hid (Below w.heap.size w wr.drew) := HB.out.trans ((below_drewR wr).mono HB.out.size)
      have cx := conv_row (w := wr.drew) (c := p.c) rfl x1.2.2.2.2
      have cy := conv_row (w := wr.drew) (c := q.c) rfl y1.2.2.2.2
      clear q1 q2 hp hq x1 y1 HR1 HR2
      obtain ⟨pa, pc, pz⟩ := p
      obtain ⟨qa, qc, qz⟩ := q
      simp only at hz cx cy x0 y0
      subst hz
      unfold ptV at x0 y0
      simp only at x0 y0
      generalize strOfNums pz = s at *
      go_upto_region 6 with fail
      go_region
      go_wp2
      go_roundw
      case rel => exact ⟨j + 1, by omega, by go_num, HBd⟩
      case measure => simp [intOf]; omega
    · go_wp2
      go_ret
      exact ⟨rfl, HB.out⟩
end Go.Proofs.Ytmfciheenemapaa
