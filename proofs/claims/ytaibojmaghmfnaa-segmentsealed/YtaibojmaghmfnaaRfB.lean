/- The reference's bits and bytes. -/
import Derived.Test.YtaibojmaghmfnaaCpy
import Derived.Test.YtaibojmaghmfnaaBitL
namespace Go.Proofs.Ytaibojmaghmfnaa
open Go.RowKit

theorem div_byte (z : Int) (j : Nat) (h0 : 0 ≤ z) (h1 : z < 256) : 0 ≤ z / 2 ^ j ∧ z / 2 ^ j < 256 := by
  have hp := two_pos j
  refine ⟨Int.ediv_nonneg h0 (by omega), Int.lt_of_le_of_lt (Int.ediv_le_self _ h0) h1⟩
def NewBytes (w : World) (zs : List Int) (e : Ending) (w' : World) : Prop :=
  ∃ a cap, e = .returned (.slice a zs.length cap) ∧ zs.length ≤ cap ∧ cap ≤ maxLen ∧ (a = none → cap = 0) ∧ Row w' a zs ∧ Below w.heap.size w w'
theorem Try.info3 : (Try.prog.info? 3).map (fun i => (i.zero, i.size, i.bytes)) = some (some (.int .i64 0), 1, 8) := by kernel_rfl
def ivals (l : List Int) : List Value := l.map (Value.int .i64)
theorem ivals_len (l : List Int) : (ivals l).length = l.length := by simp [ivals]
theorem ivals_append (l m : List Int) : ivals (l ++ m) = ivals l ++ ivals m := by simp [ivals]
theorem ivals_at (l : List Int) (i : Nat) (hi : i < l.length) : (ivals l)[i]? = some (.int .i64 (l[i]?.getD 0)) := by simp [ivals, hi]
theorem ivals_one (l : List Int) : ∀ u ∈ ivals l, u.oneCell' = true := by
  intro u hu
  simp only [ivals, List.mem_map] at hu
  obtain ⟨z, _, rfl⟩ := hu
  rfl
def IRow (w : World) (a : Option Addr) (l : List Int) : Prop :=
  l = [] ∨ ∃ b off, a = some ⟨b, off, none⟩ ∧ ∀ i, i < l.length → w.cell? ⟨b, off + i, none⟩ = some (.int .i64 (l[i]?.getD 0))
theorem Sl.irow {w : World} {v : Value} {g : Option Nat} {l : List Int} (h : Sl w 3 v g (ivals l)) {a : Option Addr} {n cap : Nat} (hv : v = .slice a n cap) : IRow w a l := by
  subst hv
  rcases h with ⟨_, _, h⟩ | ⟨b, off, cap', cur, h, _, hh, _, _, _, hc⟩
  · exact .inl (by simpa [ivals] using h)
  · simp only [Value.slice.injEq] at h
    obtain ⟨rfl, _, _⟩ := h
    refine .inr ⟨b, off, rfl, fun i hi => ?_⟩
    rw [← ivals_at l i hi, ← hc i (by rw [ivals_len]; exact hi)]
    simp [World.cell?, hh]
theorem inews_row {w : World} {x : Addr} {l : List Int} (h : IRow w (some x) l) : ∀ j u, (ivals l)[j]? = some u → w.cell? (x.add j) = some u := by
  intro j u hj
  rcases h with rfl | ⟨b, off, hx, hc⟩
  · simp [ivals] at hj
  · simp at hx
    subst hx
    simp only [ivals, List.getElem?_map, Option.map_eq_some_iff] at hj
    obtain ⟨z, hz, rfl⟩ := hj
    have hlt : j < l.length := by
      by_cases h : j < l.length
      · exact h
      · rw [List.getElem?_eq_none (by omega)] at hz; cases hz
    have := hc j hlt
    rw [hz] at this
    rw [Addr.add_lit]
    simpa using this
theorem two_pow_31 {n : Nat} (h : n ≤ 32) : (2 : Int) ^ n ≤ 4294967296 := by
  have := pow_le_of n 32 h
  have e : (2 : Int) ^ 32 = 4294967296 := by decide
  omega

set_option maxHeartbeats 800000 in
theorem number_any (a : Option Addr) (n cap : Nat) (l : List Int) (w : World) (hn : l.length = n) (h32 : n ≤ 32) (hb : Bit l) (hr : IRow w a l) :
    Calls Try.prog 53 #[.slice a n cap] w fun e w' => e = .returned (.int .i64 (binN l)) ∧ w' = w := by
  have HN : Hid (l.length = n) := hn
  have HB : Hid (Bit l) := hb
  have HR : Hid (IRow w a l) := hr
  clear hn hb hr
  go_enter Try.func53, Try.ntmps53
  go_wp2
  go_loop [3, 4] (fun v i => ∃ j : Nat, j ≤ n ∧ i = .int .i64 ((j : Int) - 1) ∧ v = .int .i64 (binN (l.drop j))) (fun _ i => (intOf i + 1).toNat)
  case atStart => exact ⟨n, Nat.le_refl _, by go_num, by rw [List.drop_of_length_le (by have := HN.out; omega)]; rfl⟩
  case round =>
    obtain ⟨j, hj, rfl, rfl⟩ := hrel
    cases j with
    | zero =>
      go_wp2
      go_ret
      exact ⟨rfl, rfl⟩
    | succ j =>
      rw [show ((j + 1 : Nat) : Int) - 1 = (j : Int) from by omega]
      have hbd := binN_bound (HB.out.drop (j + 1))
      have h31 := two_pow_31 (n := (l.drop (j + 1)).length) (by rw [List.length_drop]; have := HN.out; omega)
      have hx := HB.out.at j
      have HS : Hid (binN (l.drop j) = l[j]?.getD 0 + 2 * binN (l.drop (j + 1))) := binN_drop l j (by have := HN.out; omega)
      have hcell : ∃ b off, a = some ⟨b, off, none⟩ ∧ w.cell? ⟨b, off + j, none⟩ = some (.int .i64 (l[j]?.getD 0)) := by
        rcases HR.out with h | ⟨b, off, e, hc⟩
        · have := HN.out; rw [h] at this; simp at this; omega
        · exact ⟨b, off, e, hc j (by have := HN.out; omega)⟩
      obtain ⟨b, off, rfl, hck⟩ := hcell
      have hub : binN (l.drop (j + 1)) < 4294967296 := by omega
      have hlb : 0 ≤ binN (l.drop (j + 1)) := hbd.1
      clear hbd h31
      go_wp2
      go_round
      case rel => exact ⟨j, by omega, by go_num, by rw [HS.out]; go_num⟩
      case measure => simp [intOf]

def NewInts (w : World) (l : List Int) (e : Ending) (w' : World) : Prop :=
  ∃ a c g, e = .returned (.slice a l.length c) ∧ Sl w' 3 (.slice a l.length c) g (ivals l) ∧ (∀ k, g = some k → w.heap.size ≤ k) ∧ Below w.heap.size w w'
/-- One int more at the end of a slice of the call's own. -/
theorem wpList_push_int {w : World} {ops : Array Oper} {rest : List Oper} {o : Oper} {a : Act} {Q : Exit → Act → World → Prop} (hgd : o.guard = none) (s x : Operand)
    (ho : o.op = .call { callee := .builtin .append, args := #[s, x], argTypes := #[59, 59] })
    (B : Nat) (w0 wr : World) (z : Int) (hw : w = wr.alloc (.cells #[.int .i64 z] 3)) (v : Value) (g : Option Nat) (l : List Int) (hs : a.eval s = v) (hsl : Sl wr 3 v g (ivals l)) (hx : a.eval x = .slice (some ⟨wr.heap.size, 0, none⟩) 1 1)
    (hlen : l.length ≤ 1000000) (hb : Below B w0 wr) (hB : B ≤ wr.heap.size) (hg : ∀ k, g = some k → B ≤ k)
    (h : ∀ v' w' g', Sl w' 3 v' g' (ivals (l ++ [z])) → (∀ k, g' = some k → B ≤ k) → Below B w0 w' → wpList Try.prog ops Q rest (a.put o.dst v') w') : wpList Try.prog ops Q (o :: rest) a w := by
  subst hw
  obtain ⟨i0, hi, hz0, hz1, hz2⟩ := info_parts Try.info3
  refine wpList_append_sl hgd s x _ ho 3 i0 (.int .i64 0) 8 Try.underlying59 hi hz0 hz1 hz2 rfl v g (ivals l) hs (hsl.same fun q hq => Below.heap_alloc wr _ q (hsl.lt hq)) ⟨wr.heap.size, 0, none⟩ 1 1 [.int .i64 z] hx rfl (cell_one_new _ _ _) (by intro y hy; simp at hy; subst hy; rfl) (by rw [ivals_len]; omega) (by rw [ivals_len]; unfold maxLen; omega) ?_
  intro v' w' g' h1 h2 h3
  refine h v' w' g' (by rw [ivals_append]; exact h1) ?_ ((hb.alloc hB _).grown h3 (by simp; omega) hg)
  intro k hk
  rcases h2 with e | ⟨q, e, hq⟩
  · exact hg k (by rw [← e]; exact hk)
  · rw [e] at hk; cases hk; simp at hq; omega

/-- One byte more at the end of a slice of the call's own. -/
theorem wpList_push_byte {w : World} {ops : Array Oper} {rest : List Oper} {o : Oper} {a : Act} {Q : Exit → Act → World → Prop} (hgd : o.guard = none) (s x : Operand)
    (ho : o.op = .call { callee := .builtin .append, args := #[s, x], argTypes := #[24, 24] })
    (B : Nat) (w0 wr : World) (z : Int) (hw : w = wr.alloc (.cells #[.int .u8 z] 5)) (v : Value) (g : Option Nat) (l : List Int) (hs : a.eval s = v) (hsl : Sl wr 5 v g (vals l)) (hx : a.eval x = .slice (some ⟨wr.heap.size, 0, none⟩) 1 1)
    (hlen : l.length ≤ 1000000) (hb : Below B w0 wr) (hB : B ≤ wr.heap.size) (hg : ∀ k, g = some k → B ≤ k)
    (h : ∀ v' w' g', Sl w' 5 v' g' (vals (l ++ [z])) → (∀ k, g' = some k → B ≤ k) → Below B w0 w' → wpList Try.prog ops Q rest (a.put o.dst v') w') : wpList Try.prog ops Q (o :: rest) a w := by
  subst hw
  obtain ⟨i0, hi, hz0, hz1, hz2⟩ := info_parts Try.info5
  refine wpList_append_sl hgd s x _ ho 5 i0 (.int .u8 0) 1 Try.underlying24 hi hz0 hz1 hz2 rfl v g (vals l) hs (hsl.same fun q hq => Below.heap_alloc wr _ q (hsl.lt hq)) ⟨wr.heap.size, 0, none⟩ 1 1 [.int .u8 z] hx rfl (cell_one_new _ _ _) (by intro y hy; simp at hy; subst hy; rfl) (by rw [vals_len]; omega) (by rw [vals_len]; unfold maxLen; omega) ?_
  intro v' w' g' h1 h2 h3
  refine h v' w' g' (by rw [vals_append]; exact h1) ?_ ((hb.alloc hB _).grown h3 (by simp; omega) hg)
  intro k hk
  rcases h2 with e | ⟨q, e, hq⟩
  · exact hg k (by rw [← e]; exact hk)
  · rw [e] at hk; cases hk; simp at hq; omega

set_option maxHeartbeats 1600000 in
theorem refBytes_any (a : Option Addr) (n cap : Nat) (l : List Int) (w : World) (hn : l.length = n) (hc : n ≤ cap) (_hm : cap ≤ maxLen) (hs : n ≤ 1000000) (hb : Bit l) (hr : IRow w a l) :
    Calls Try.prog 34 #[.slice a n cap] w fun e w' => NewBytes w (chunkL l ((n + 7) / 8)) e w' := by
  have HN : Hid (l.length = n) := hn
  have HB : Hid (Bit l) := hb
  have HR : Hid (IRow w a l) := hr
  obtain ⟨B, hB⟩ : ∃ B, B = w.heap.size := ⟨_, rfl⟩
  have HBW : Hid (B = w.heap.size) := hB
  clear hn hb hr hB
  unfold maxLen at _hm
  go_enter Try.func34, Try.ntmps34
  go_wp2
  go_loopw [3, 4] (fun o i wr => ∃ k : Nat, ∃ g, 8 * k ≤ n + 7 ∧ i = .int .i64 ((8 * k : Nat) : Int) ∧ Sl wr 5 o g (vals (chunkL l k)) ∧ (∀ q, g = some q → B ≤ q) ∧ Below B w wr) (fun _ i _ => n + 8 - (intOf i).toNat)
  case atStart => exact ⟨0, none, by omega, rfl, Sl.nil _ _, (by intro k hk; cases hk), Below.refl _ _⟩
  case round =>
    obtain ⟨k, g, hk, rfl, hsl, hg, hbel⟩ := hrel
    by_cases hlt : 8 * k < n
    · have hlt' : ((8 * k : Nat) : Int) < (n : Int) := by omega
      obtain ⟨b, off, hab, hcell⟩ : ∃ b off, a = some ⟨b, off, none⟩ ∧ ∀ i, i < l.length → w.cell? ⟨b, off + i, none⟩ = some (.int .i64 (l[i]?.getD 0)) := by
        rcases HR.out with h | h
        · have := HN.out; rw [h] at this; simp at this; omega
        · exact h
      have HIR : Hid (IRow wr (some ⟨b, off + 8 * k, none⟩) ((l.drop (8 * k)).take 8)) := by
        refine .inr ⟨b, off + 8 * k, rfl, fun i hi => ?_⟩
        rw [List.length_take, List.length_drop] at hi
        have hbw : b < B := by rw [HBW.out]; have := cell_lt (hcell 0 (by have := HN.out; omega)); exact this
        have h8 : i < 8 := by omega
        rw [hbel.cell (p := ⟨b, off + 8 * k + i, none⟩) hbw, Nat.add_assoc, hcell (8 * k + i) (by omega)]
        simp [List.getElem?_drop, h8]
      have HBT : Hid (Bit ((l.drop (8 * k)).take 8)) := (HB.out.drop _).take _
      have hcb := chunk_byte HB.out k
      have HCS : Hid (chunkL l (k + 1) = chunkL l k ++ [binN ((l.drop (8 * k)).take 8)] ∧ (chunkL l k).length ≤ 1000000) := ⟨chunkL_snoc l k, by rw [chunkL_len]; omega⟩
      have HBs : Hid (B ≤ wr.heap.size) := (by have := hbel.size; have := HBW.out; omega : B ≤ wr.heap.size)
      have HTL : Hid (((l.drop (8 * k)).take 8).length = min 8 (n - 8 * k)) := by rw [List.length_take, List.length_drop, HN.out]; rfl
      subst hab
      clear hcell
      generalize (l.drop (8 * k)).take 8 = q at *
      by_cases h8 : 8 * k + 8 ≤ n
      · have h8' : ((8 * k : Nat) : Int) + 8 ≤ (n : Int) := by omega
        go_wp2_with fail
        refine (number_any _ 8 _ q _ (by have : q.length = min 8 (n - 8 * k) := HTL.out; omega) (by omega) HBT.out HIR.out).mono ?_
        rintro e w1 ⟨rfl, rfl⟩
        go_wp2_with (at_builtin; refine wpList_push_byte rfl _ _ rfl B w _ (binN q) rfl _ g (chunkL l k) rfl hsl rfl HCS.out.2 hbel HBs.out hg ?_)
        intro v' w' g' hsl' hg' hbel'
        clear hsl hg hbel
        go_wp2
        go_roundw
        case rel => exact ⟨k + 1, g', by omega, by go_num, by rw [HCS.out.1]; exact hsl', hg', hbel'⟩
        case measure => simp only [intOf]; omega
      · have h8' : (n : Int) < ((8 * k : Nat) : Int) + 8 := by omega
        go_wp2_with fail
        refine (number_any _ (n - 8 * k) _ q _ (by have : q.length = min 8 (n - 8 * k) := HTL.out; omega) (by omega) HBT.out HIR.out).mono ?_
        rintro e w1 ⟨rfl, rfl⟩
        go_wp2_with (at_builtin; refine wpList_push_byte rfl _ _ rfl B w _ (binN q) rfl _ g (chunkL l k) rfl hsl rfl HCS.out.2 hbel HBs.out hg ?_)
        intro v' w' g' hsl' hg' hbel'
        clear hsl hg hbel
        go_wp2
        go_roundw
        case rel => exact ⟨k + 1, g', by omega, by go_num, by rw [HCS.out.1]; exact hsl', hg', hbel'⟩
        case measure => simp only [intOf]; omega
    · have hk2 : k = (n + 7) / 8 := by omega
      have HK2 : Hid (k = (n + 7) / 8) := hk2
      clear hk2
      obtain ⟨a', c', hv, k1, k2, k3⟩ := hsl.shape
      rw [vals_len] at hv k1
      have hge : (n : Int) ≤ ((8 * k : Nat) : Int) := by omega
      go_wp2
      go_ret
      unfold NewBytes
      rw [← HK2.out]
      subst hv
      exact ⟨a', c', rfl, k1, k2, k3, hsl.row rfl, by rw [← HBW.out]; exact hbel⟩
set_option maxHeartbeats 1600000 in
/-- The document's bits of bytes. -/
theorem bits_any (a : Option Addr) (n cap : Nat) (zs : List Int) (w : World) (hn : zs.length = n) (hs : n ≤ 6000) (hb : Bytes zs) (hr : Row w a zs) :
    Calls Try.prog 33 #[.slice a n cap] w fun e w' => NewInts w (bitsL zs) e w' := by
  have HN : Hid (zs.length = n) := hn
  have HB : Hid (Bytes zs) := hb
  have HR : Hid (Row w a zs) := hr
  obtain ⟨B, hB⟩ : ∃ B, B = w.heap.size := ⟨_, rfl⟩
  have HBW : Hid (B = w.heap.size) := hB
  clear hn hb hr hB
  go_enter Try.func33, Try.ntmps33
  go_wp2
  go_loopw [3, 4] (fun o i wr => ∃ k : Nat, ∃ g, k ≤ n ∧ i = .int .i64 k ∧ Sl wr 3 o g (ivals (bitsL (zs.take k))) ∧ (∀ q, g = some q → B ≤ q) ∧ Below B w wr) (fun _ i _ => n - (intOf i).toNat)
  case atStart => exact ⟨0, none, by omega, rfl, Sl.nil _ _, (by intro k hk; cases hk), Below.refl _ _⟩
  case round =>
    obtain ⟨k, g, hk, rfl, hsl, hg, hbel⟩ := hrel
    by_cases hlt : k < n
    · obtain ⟨b, off, hab, hcell⟩ : ∃ b off, a = some ⟨b, off, none⟩ ∧ ∀ i, i < zs.length → w.cell? ⟨b, off + i, none⟩ = some (.int .u8 (zs[i]?.getD 0)) := by
        rcases HR.out with h | h
        · have := HN.out; rw [h] at this; simp at this; omega
        · exact h
      have hbw : b < B := by rw [HBW.out]; exact cell_lt (hcell 0 (by have := HN.out; omega))
      have hck : wr.cell? ⟨b, off + k, none⟩ = some (.int .u8 (zs[k]?.getD 0)) := by
        rw [hbel.cell (p := ⟨b, off + k, none⟩) hbw]
        exact hcell k (by have := HN.out; omega)
      have hzb := HB.out.at k
      have HTK : Hid (bitsL (zs.take (k + 1)) = bitsL (zs.take k) ++ lowL (zs[k]?.getD 0) 8 ∧ (bitsL (zs.take k)).length = 8 * k) := by
        refine ⟨?_, ?_⟩
        · have hkz : k < zs.length := by have := HN.out; omega
          rw [List.take_add_one, List.getElem?_eq_getElem hkz, bitsL_append]
          simp [bitsL]
        · rw [bitsL_len, List.length_take]; have := HN.out; omega
      have HIN : Hid (Sl wr 3 _ g (ivals (bitsL (zs.take k) ++ lowL (zs[k]?.getD 0) 0)) ∧ (∀ q, g = some q → B ≤ q) ∧ Below B w wr) := ⟨by rw [show lowL (zs[k]?.getD 0) 0 = [] from rfl, List.append_nil]; exact hsl, hg, hbel⟩
      subst hab
      clear hcell hsl hg hbel hbw
      generalize zs[k]?.getD 0 = z at *
      generalize hM : bitsL (zs.take k) = M at *
      go_wp2
      go_loopw [3, 5, 6] (fun o x c wq => ∃ j : Nat, ∃ g', j ≤ 8 ∧ c = .int .i64 j ∧ x = .int .i64 (z / 2 ^ j) ∧ Sl wq 3 o g' (ivals (M ++ lowL z j)) ∧ (∀ q, g' = some q → B ≤ q) ∧ Below B w wq) (fun _ _ c _ => 8 - (intOf c).toNat)
      case atStart => exact ⟨0, g, by omega, rfl, by simp, HIN.out⟩
      case round =>
        clear HIN hck
        obtain ⟨j, g', hj, rfl, rfl, hsl, hg, hbel⟩ := hrel
        by_cases hlt2 : j < 8
        · have hdb := div_byte z j hzb.1 hzb.2
          have HX : Hid (z / 2 ^ (j + 1) = z / 2 ^ j / 2) := by rw [ediv_pow]; rfl
          have HL : Hid (M ++ lowL z (j + 1) = M ++ lowL z j ++ [z / 2 ^ j % 2] ∧ (M ++ lowL z j).length ≤ 1000000) := ⟨by rw [lowL_snoc, List.append_assoc], by rw [List.length_append, lowL_len, HTK.out.2]; omega⟩
          have HBs : Hid (B ≤ wr.heap.size) := (by have := hbel.size; have := HBW.out; omega : B ≤ wr.heap.size)
          generalize z / 2 ^ j = x at *
          have hmod : x.tmod 2 = x % 2 := Int.tmod_eq_emod_of_nonneg hdb.1
          have hdiv : x.tdiv 2 = x / 2 := Int.tdiv_eq_ediv_of_nonneg hdb.1
          go_wp2_with (at_builtin; refine wpList_push_int rfl _ _ rfl B w wr (x % 2) rfl _ g' (M ++ lowL z j) rfl hsl rfl HL.out.2 hbel HBs.out hg ?_)
          intro v' w' g'' hsl' hg' hbel'
          clear hsl hg hbel
          go_wp2
          go_roundw
          case rel => exact ⟨j + 1, g'', by omega, by go_num, by rw [HX.out], by rw [HL.out.1, List.append_assoc]; exact hsl', hg', hbel'⟩
          case measure => simp [intOf]; omega
        · obtain rfl : j = 8 := by omega
          go_wp2
          go_roundw
          case rel => exact ⟨k + 1, g', by omega, by go_num, by rw [HTK.out.1]; exact hsl, hg, hbel⟩
          case measure => simp [intOf]; omega
    · obtain rfl : k = n := by omega
      have HTK : Hid (bitsL (zs.take k) = bitsL zs) := by rw [List.take_of_length_le (by have := HN.out; omega)]; rfl
      rw [HTK.out] at hsl
      obtain ⟨a', c', hv, _⟩ := hsl.shape
      rw [ivals_len] at hv
      go_wp2
      go_ret
      unfold NewInts
      subst hv
      exact ⟨a', c', g, rfl, hsl, (by intro q hq; rw [← HBW.out]; exact hg q hq), by rw [← HBW.out]; exact hbel⟩
end Go.Proofs.Ytaibojmaghmfnaa
