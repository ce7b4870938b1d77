/- The parcels of one symbol each. -/
import Derived.Test.YtjellgkojmgmjaaHgC
namespace Go.Proofs.Ytjellgkojmgmjaa
open Go.RowKit

theorem Try.info86 : (Try.prog.info? 86).map (fun i => (i.zero, i.size, i.bytes)) = some (some (.agg #[.int .i64 0, .slice none 0 0]), 2, 32) := by kernel_rfl
theorem wpList_append_none {w : World} {ops : Array Oper} {rest : List Oper} {o : Oper} {a : Act} {Q : Exit → Act → World → Prop} (hgd : o.guard = none) (s x : Operand) (t : TypeId)
    (ho : o.op = .call { callee := .builtin .append, args := #[s, x], argTypes := #[t, t] })
    (e : TypeId) (i : TypeInfo) (ht : Try.prog.underlying t = some (.slice e)) (hi : Try.prog.info? e = some i)
    (ad : Option Addr) (n cap : Nat) (hs : a.eval s = .slice ad n cap) (hle : n ≤ cap) (hx : a.eval x = .slice none 0 0)
    (h : wpList Try.prog ops Q rest (a.put o.dst (.slice ad n cap)) w) : wpList Try.prog ops Q (o :: rest) a w := by
  refine wpList_plain hgd fun K hK => ?_
  have hrun : (Builtin.append_ #[t, t] o.type #[.slice ad n cap, .slice none 0 0]).run Try.prog w = .ok (.slice ad n cap) w := by
    cases ad <;> simp [Builtin.append_, run_underlying ht, sizeOf, typeInfo, hi, Builtin.lenOf, Builtin.firstCells, hle, storeCells]
  unfold Oper.wp
  simp [execOp, ho, resolve, invoke, builtin, hs, hx, hrun, Result.andThen]
  exact hK _ _ h
/-- 'append(v, x...)': parcels more. -/
theorem wpList_push_parcel {w : World} {ops : Array Oper} {rest : List Oper} {o : Oper} {a : Act} {Q : Exit → Act → World → Prop} (hgd : o.guard = none) (s x : Operand)
    (ho : o.op = .call { callee := .builtin .append, args := #[s, x], argTypes := #[83, 83] })
    (base : Nat) (v : Value) (xs news : List Pv) (hs : a.eval s = v) (hp : PRow w base v xs) (ad : Option Addr) (m c : Nat) (hx : a.eval x = .slice ad m c) (hm : news.length = m) (hc : ad = none → c = 0) (hr : RV w ad news)
    (hlen : xs.length + m ≤ 1000000) (hbase : base ≤ w.heap.size)
    (h : ∀ v' w', PRow w' base v' (xs ++ news) → w.grownBy w' v.ownBlock → wpList Try.prog ops Q rest (a.put o.dst v') w') : wpList Try.prog ops Q (o :: rest) a w := by
  obtain ⟨i0, hi, hz0, hz1, hz2⟩ := info_parts Try.info86
  cases ad with
  | none =>
    have hm0 : news = [] := by
      rcases hr with h | ⟨b, off, cur, h, _⟩
      · exact h
      · cases h
    subst hm0
    obtain rfl : 0 = m := hm
    obtain rfl := hc rfl
    have hsh : ∃ ad n cap, v = .slice ad n cap ∧ n ≤ cap := by
      rcases hp.2 with ⟨h, _⟩ | ⟨g, cap, cur, h, hb, hh, h1, h2, h3, h4⟩
      · exact ⟨_, _, _, h, Nat.le_refl _⟩
      · exact ⟨_, _, _, h, h1⟩
    obtain ⟨av, nv, cv, hv, hle⟩ := hsh
    refine wpList_append_none hgd s x 83 ho 86 i0 Try.underlying83 hi av nv cv (by rw [hs, hv]) hle hx ?_
    rw [← hv]
    exact h v w (by rw [List.append_nil]; exact hp) ⟨rfl, rfl, rfl, Nat.le_refl _, fun _ _ _ => rfl⟩
  | some ad =>
    refine wpList_append_own w hgd s x 83 ho base 86 i0 _ 2 32 Try.underlying83 hi hz0 hz1 hz2 rfl (by decide) v xs.length (flat xs) hs hp ad m c (flat news) hx (by rw [flat_len, hm]) hr.news (flat_one news) (by unfold maxLen; omega) (by omega) hbase ?_
    intro v' w' hown hg _
    refine h v' w' ?_ hg
    unfold PRow
    rw [List.length_append, flat_append, hm]
    exact hown
/-- The parcels of counts, in the symbols' order; the first symbol is k. -/
def sing (k : Nat) : List Int → List Pc
  | [] => []
  | n :: r => if 0 < n then (n, [(k : Int)]) :: sing (k + 1) r else sing (k + 1) r
theorem sing_snoc (l : List Int) (k : Nat) (n : Int) : sing k (l ++ [n]) = sing k l ++ if 0 < n then [(n, [((k + l.length : Nat) : Int)])] else [] := by
  induction l generalizing k with
  | nil => simp only [List.nil_append, sing, List.length_nil, Nat.add_zero]
  | cons m r ih =>
    rw [List.cons_append, sing, sing, ih, List.length_cons, show k + 1 + r.length = k + (r.length + 1) by omega]
    split <;> simp
theorem sing_len (l : List Int) (k : Nat) : (sing k l).length = wordsN l := by
  induction l generalizing k with
  | nil => rfl
  | cons m r ih =>
    unfold wordsN at ih ⊢
    rw [sing, List.countP_cons]
    by_cases h : 0 < m
    · simp [h, ih]
    · simp [h, ih]
def SiRel (w : World) (cs : List Int) (i : Nat) (v : Value) (wr : World) : Prop :=
  ∃ xs, PRow wr w.heap.size v xs ∧ PS wr xs (sing 0 (cs.take i)) ∧ (∀ x ∈ xs, w.heap.size ≤ x.b) ∧ Below w.heap.size w wr
def SingPost (w : World) (cs : List Int) (e : Ending) (w' : World) : Prop :=
  ∃ v ys ps, e = .returned v ∧ PRow w' w.heap.size v ys ∧ PS w' ys ps ∧ ps.Perm (sing 0 cs) ∧ Rising ys ∧ (∀ x ∈ ys, w.heap.size ≤ x.b) ∧ Below w.heap.size w w'
theorem PRow.shape {w : World} {base : Nat} {v : Value} {xs : List Pv} (h : PRow w base v xs) : ∃ ad cap, v = .slice ad xs.length cap := by
  rcases h.2 with ⟨h, h0⟩ | ⟨g, cap, cur, h, _⟩
  · exact ⟨none, 0, by rw [h, h0]⟩
  · exact ⟨_, _, h⟩
theorem PRow.kept {w w' : World} {base : Nat} {v : Value} {xs : List Pv} (h : PRow w base v xs) (hb : Below w.heap.size w w') : PRow w' base v xs := by
  obtain ⟨h1, h⟩ := h
  refine ⟨h1, ?_⟩
  rcases h with h | ⟨g, cap, cur, h, hb', hh, r⟩
  · exact .inl h
  · exact .inr ⟨g, cap, cur, h, hb', (hb.block _ (lt_of_block hh)).trans hh, r⟩
theorem PRow.blk {w : World} {base : Nat} {v : Value} {xs : List Pv} (h : PRow w base v xs) : ∀ k, v.ownBlock = some k → base ≤ k := by
  intro k hk
  rcases h.2 with ⟨rfl, _⟩ | ⟨g, cap, cur, rfl, hb, _⟩
  · cases hk
  · cases hk; exact hb
set_option maxHeartbeats 1600000 in
set_option maxRecDepth 10000 in
theorem singles_any (a : Option Addr) (len cap : Nat) (cs : List Int) (w : World) (hn : cs.length = len) (hl : len ≤ 288) (hr : IRow w a cs)
    (hsort : ∀ w' v xs, xs.length = wordsN cs → Sorts w' w.heap.size v xs) :
    Calls Try.prog 41 #[.slice a len cap] w fun e w' => SingPost w cs e w' := by
  have HN : Hid (cs.length = len) := hn
  have HR : Hid (IRow w a cs) := hr
  have HSO : Hid (∀ w' v xs, xs.length = wordsN cs → Sorts w' w.heap.size v xs) := hsort
  have HS : Hid (SiRel w cs 0 (.slice none 0 0) w) := ⟨[], World.ownsRow_nil _ _ _ _, .nil, (by intro x hx; cases hx), Below.refl _ _⟩
  clear hn hr hsort
  go_enter Try.func41, Try.ntmps41
  go_wp2
  go_loopw [3, 8] (fun v i wr => ∃ k : Nat, k ≤ len ∧ i = .int .i64 k ∧ SiRel w cs k v wr) (fun _ i _ => len - (intOf i).toNat)
  case atStart => exact ⟨0, Nat.zero_le _, rfl, HS.out⟩
  case round =>
    clear HS
    obtain ⟨k, hk, rfl, xs, hp, hps, hxb, hbel⟩ := hrel
    have HXB : Hid (∀ x ∈ xs, w.heap.size ≤ x.b) := hxb
    clear hxb
    have HWS : Hid (w.heap.size ≤ wr.heap.size) := hbel.size
    by_cases hlt : k < len
    · obtain ⟨b, off, rfl, hck⟩ := HR.out.at k (by have := HN.out; omega)
      have hck' := (hbel.cell (p := ⟨b, off + k, none⟩) (cell_lt hck)).trans hck
      clear hck
      have HT : Hid (sing 0 (cs.take (k + 1)) = sing 0 (cs.take k) ++ if 0 < cs[k]?.getD 0 then [(cs[k]?.getD 0, [(k : Int)])] else []) := by
        show _ = _
        rw [take_snocI cs k (by have := HN.out; omega), sing_snoc, List.length_take, Nat.min_eq_left (by have := HN.out; omega), Nat.zero_add]
      have hxl : xs.length ≤ 288 := by
        rw [All2.len hps, sing_len]
        have := wordsN_le (cs.take k)
        rw [List.length_take] at this
        omega
      generalize cs[k]?.getD 0 = z at *
      by_cases hz : 0 < z
      · have HT2 : Hid (sing 0 (cs.take (k + 1)) = sing 0 (cs.take k) ++ [(z, [(k : Int)])]) := by show _ = _; rw [HT.out, if_pos hz]
        clear HT
        have HK : Hid (PRow wr w.heap.size u3 xs ∧ PS wr xs (sing 0 (cs.take k)) ∧ Below w.heap.size w wr) := ⟨hp, hps, hbel⟩
        clear hp hps hbel
        have hcells : ∃ w2, (wr.alloc (.cells #[.int .i64 k] 3)).alloc (.cells #[.int .i64 z, .slice (some ⟨wr.heap.size, 0, none⟩) 1 1] 86) = w2 ∧ Hid (PRow w2 w.heap.size u3 xs ∧ PS w2 xs (sing 0 (cs.take k)) ∧ Below w.heap.size w w2 ∧ RV w2 (some ⟨wr.heap.size + 1, 0, none⟩) [⟨z, wr.heap.size, 1, 1⟩] ∧ Rp w2 ⟨z, wr.heap.size, 1, 1⟩ (z, [(k : Int)])) := by
          refine ⟨_, rfl, ?_⟩
          obtain ⟨hp, hps, hbel⟩ := HK.out
          have hb2 : Below wr.heap.size wr ((wr.alloc (.cells #[.int .i64 k] 3)).alloc (.cells #[.int .i64 z, .slice (some ⟨wr.heap.size, 0, none⟩) 1 1] 86)) := ((Below.refl _ _).alloc (Nat.le_refl _) _).alloc (by simp) _
          refine ⟨hp.kept hb2, PS.old hps hb2, hbel.trans (hb2.mono hbel.size), .inr ⟨_, 0, #[.int .i64 z, .slice (some ⟨wr.heap.size, 0, none⟩) 1 1], rfl, ?_, ?_⟩, rfl, rfl, Nat.le_refl _, Nat.le_refl _, (by decide : 1 ≤ maxLen), #[.int .i64 k], ?_, ?_⟩
          · have := heap_alloc_new (wr.alloc (.cells #[.int .i64 k] 3)) (.cells #[.int .i64 z, .slice (some ⟨wr.heap.size, 0, none⟩) 1 1] 86)
            rw [show (wr.alloc (.cells #[.int .i64 k] 3)).heap.size = wr.heap.size + 1 by simp] at this
            exact this
          · intro i u hi
            rw [Nat.zero_add]
            simpa [flat, Pv.enc] using hi
          · exact (((Below.refl (wr.alloc (.cells #[.int .i64 k] 3)).heap.size (wr.alloc (.cells #[.int .i64 k] 3))).alloc (Nat.le_refl _) _).block _ (by simp)).trans (heap_alloc_new _ _)
          · intro i hi
            obtain rfl : i = 0 := by simpa using hi
            rfl
        obtain ⟨w2, hw2, HK2⟩ := hcells
        go_wp2_with (at_builtin; refine wpList_push_parcel rfl _ _ rfl w.heap.size _ xs [⟨z, wr.heap.size, 1, 1⟩] rfl HK2.out.1 (some ⟨wr.heap.size + 1, 0, none⟩) 1 1 rfl rfl (by intro h; cases h) HK2.out.2.2.2.1 (by omega) HK2.out.2.2.1.size ?_)
        intro v' w3 hp3 hg3
        have R : Hid (SiRel w cs (k + 1) v' w3) := by
          obtain ⟨k1, k2, k3, k4, k5⟩ := HK2.out
          refine ⟨_, hp3, ?_, ?_, ?_⟩
          · rw [HT2.out]
            exact (PS.kept k2 k1 hg3).append (.cons (k5.kept k1 hg3) .nil)
          · intro x hx
            rcases List.mem_append.1 hx with hx | hx
            · exact HXB.out x hx
            · simp only [List.mem_cons, List.not_mem_nil, or_false] at hx
              rw [hx]; exact HWS.out
          · exact Fr.below k3 (Fr.grown (r := w.heap.size) hg3) (Nat.le_refl _) (PRow.blk k1) k3.size
        clear hp3 hg3 HK2 HK
        go_wp2
        go_roundw
        case rel => exact ⟨k + 1, by omega, by go_num, R.out⟩
        case measure => simp [intOf]; omega
      · have R : Hid (SiRel w cs (k + 1) u3 wr) := ⟨xs, hp, by rw [HT.out, if_neg hz, List.append_nil]; exact hps, HXB.out, hbel⟩
        clear HT hp hps hbel
        go_wp2
        go_roundw
        case rel => exact ⟨k + 1, by omega, by go_num, R.out⟩
        case measure => simp [intOf]; omega
    · have e : cs.take k = cs := List.take_of_length_le (by have := HN.out; omega)
      rw [e] at hps
      have hxl : xs.length = wordsN cs := by rw [All2.len hps, sing_len]
      have C := HSO.out wr u3 xs hxl hp
      have HK : Hid (PRow wr w.heap.size u3 xs ∧ PS wr xs (sing 0 cs) ∧ Below w.heap.size w wr) := ⟨hp, hps, hbel⟩
      clear hp hps hbel hxl e
      go_wp2_with (go_at_call 47; refine C.mono ?_; rintro e w3 ⟨rfl, ys, hperm, hris, hp3, hg3⟩)
      have R : Hid (SingPost w cs (.returned u3) w3) := by
        obtain ⟨k1, k2, k3⟩ := HK.out
        obtain ⟨qs, q1, q2⟩ := All2.perm (PS.kept k2 k1 hg3) hperm
        exact ⟨u3, ys, qs, rfl, hp3, q2, q1, hris, fun x hx => HXB.out x (hperm.mem_iff.1 hx), Fr.below k3 (Fr.grown (r := w.heap.size) hg3) (Nat.le_refl _) (PRow.blk k1) k3.size⟩
      clear hperm hris hp3 hg3 HK C
      go_wp2
      go_ret
      exact R.out
end Go.Proofs.Ytjellgkojmgmjaa
