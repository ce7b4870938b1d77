import Derived.Test.YtjellgkojmgmjaaHbA
import Derived.Test.YtjellgkojmgmjaaArgU
import Derived.Test.YtjellgkojmgmjaaRfH
namespace Go.Proofs.Ytjellgkojmgmjaa
open Go.RowKit

theorem Sl.tag {w : World} {e : TypeId} {v : Value} {g : Option Nat} {xs : List Value} (h : Sl w e v g xs) {k : Nat} (hk : g = some k) : ∃ cur, w.heap[k]? = some (.cells cur e (0, 0)) := by
  rcases h with ⟨_, rfl, _⟩ | ⟨b, off, cap, cur, _, rfl, hh, _⟩
  · cases hk
  · cases hk; exact ⟨cur, hh⟩
theorem WrZ.apart {w : World} {r : Nat} {g gw : Option Nat} {zs : List Int} {count : Nat} {v : Value} {xs : List Value} (h : WrZ w r g zs count) (hs : Sl w 3 v gw xs) : gw ≠ some r ∧ ∀ k, g = some k → gw ≠ some k := by
  obtain ⟨u, hh, h2⟩ := h
  refine ⟨fun e => ?_, fun k hk e => ?_⟩
  · obtain ⟨cur, q⟩ := hs.tag e
    rw [hh] at q; simp at q
  · obtain ⟨cur, q⟩ := hs.tag e
    obtain ⟨cur2, q2⟩ := h2.tag hk
    rw [q2] at q; simp at q
/-- One int more: what else is as it was. -/
theorem wpList_push_int2 {w : World} {ops : Array Oper} {rest : List Oper} {o : Oper} {a : Act} {Q : Exit → Act → World → Prop} (hgd : o.guard = none) (s x : Operand)
    (ho : o.op = .call { callee := .builtin .append, args := #[s, x], argTypes := #[22, 22] })
    (wr : World) (z : Int) (hw : w = wr.alloc (.cells #[.int .i64 z] 3)) (v : Value) (g : Option Nat) (l : List Int) (hs : a.eval s = v) (hsl : Sl wr 3 v g (ivals l)) (hx : a.eval x = .slice (some ⟨wr.heap.size, 0, none⟩) 1 1)
    (hlen : l.length ≤ 1000000)
    (h : ∀ v' w' g', Sl w' 3 v' g' (ivals (l ++ [z])) → (g' = g ∨ ∃ k, g' = some k ∧ wr.heap.size ≤ k) → (wr.alloc (.cells #[.int .i64 z] 3)).grownBy w' g → wpList Try.prog ops Q rest (a.put o.dst v') w') : wpList Try.prog ops Q (o :: rest) a w := by
  subst hw
  obtain ⟨i0, hi, hz0, hz1, hz2⟩ := info_parts Try.info3
  refine wpList_append_sl hgd s x _ ho 3 i0 (.int .i64 0) 8 Try.underlying22 hi hz0 hz1 hz2 rfl v g (ivals l) hs (hsl.same fun q hq => Below.heap_alloc wr _ q (hsl.lt hq)) ⟨wr.heap.size, 0, none⟩ 1 1 [.int .i64 z] hx rfl (cell_one_new _ _ _) (by intro y hy; simp at hy; subst hy; rfl) (by rw [ivals_len]; omega) (by rw [ivals_len]; unfold maxLen; omega) ?_
  intro v' w' g' h1 h2 h3
  refine h v' w' g' (by rw [ivals_append]; exact h1) ?_ h3
  rcases h2 with e | ⟨q, e, hq⟩
  · exact .inl e
  · exact .inr ⟨q, e, by simp at hq; omega⟩
def wl (ss : List Nat) : List Int := ss.map fun (s : Nat) => (s : Int)
theorem bitz_nil (ns : List Nat) : Bitz [] (binN (cat ns [])) (cat ns []).length := by
  rw [show cat ns [] = [] from rfl]
  exact ⟨Bytes.nil, rfl, rfl, by decide⟩
theorem wl_len (ss : List Nat) : (wl ss).length = ss.length := by simp [wl]
theorem wl_at (ss : List Nat) (k : Nat) (hk : k < ss.length) : (wl ss)[k]?.getD 0 = ((ss[k]?.getD 0 : Nat) : Int) := by simp [wl, hk]
def BkRel (w2 : World) (ns : List Nat) (r k : Nat) (v : Value) (wr : World) : Prop :=
  ∃ (ss : List Nat) (zs : List Int) (g gw : Option Nat), Sl wr 3 v gw (ivals (wl ss)) ∧ WrZ wr r g zs (cat ns ss).length ∧ Bitz zs (binN (cat ns ss)) (cat ns ss).length ∧ (∀ s ∈ ss, hn ns s ≠ 0) ∧ ss.length ≤ k ∧ Below w2.heap.size w2 wr ∧ (∀ q, g = some q → w2.heap.size ≤ q) ∧ (∀ q, gw = some q → w2.heap.size ≤ q)
def BrRel (w5 : World) (r : Nat) (g : Option Nat) (LB : List Int) (ns ss : List Nat) (k : Nat) (wr : World) : Prop :=
  ∃ (zs : List Int) (gone : Nat), Rd wr r g zs gone ∧ RI zs gone LB (cat ns (ss.take k)).length ∧ Below w5.heap.size w5 wr

set_option maxHeartbeats 3200000 in
set_option maxRecDepth 20000 in
theorem hback_walk (a : Option Addr) (len cap : Nat) (a2 : Option Addr) (len2 cap2 : Nat) (w : World) (h : IArg w a len cap) (h2 : UArg w a2 len2 cap2) :
    Calls Try.prog 5 #[.slice a len cap, .slice a2 len2 cap2] w fun e w' => e = .returned (.bool true) ∧ Below w.heap.size w w' := by
  obtain ⟨ls, hl, hc, hcap, _, hrow⟩ := h
  obtain ⟨us, hsh, hl2, hc2, hcap2, _, hrow2⟩ := h2
  have HR : Hid (IRow w a ls) := hrow
  have HL : Hid (ls.length = len) := hl
  have HR2 : Hid (URow w a2 us) := hrow2
  have HL2 : Hid (us.length = len2) := hl2
  have HSH : Hid (Short us) := hsh
  clear hrow hl hrow2 hl2 hsh
  go_enter Try.func5, Try.ntmps5
  go_wp2_with fail
  refine (fixed_any _).mono ?_
  rintro e w1 ⟨rfl, hb1⟩
  have HB1 : Hid (Below w.heap.size w w1) := hb1
  clear hb1
  go_wp2_with fail
  refine (new_all a len cap ls w1 HL.out (by omega) (HR.out.old HB1.out)).mono ?_
  rintro e w2 (⟨hok, hwh, c, rfl, hcw, hco, hb2⟩ | ⟨f, hf, hno, rfl, hw2⟩)
  · have HB2 : Hid (Below w.heap.size w w2) := HB1.out.trans (hb2.mono HB1.out.size)
    have HCD : Hid (Cd (ls.map Int.toNat)) := whole_cd hok hwh
    clear hcw hb2 hok hwh HB1
    obtain ⟨ns, hns⟩ : ∃ ns, ls.map Int.toNat = ns := ⟨_, rfl⟩
    rw [hns] at hco HCD
    have HCO : Hid (CodeAt w2 c ns) := hco
    clear hns hco HR HL
    by_cases h1000 : 1000 < len2
    · have hz : (1000 : Int) < (len2 : Int) := by omega
      go_wp2
      go_ret
      exact ⟨rfl, HB2.out⟩
    · have hz : decide ((1000 : Int) < (len2 : Int)) = false := by simp; omega
      go_wp2_with fail
      refine (newW_any _).mono ?_
      rintro e w3 ⟨r, rfl, hr, hwr, hb3⟩
      have HS : Hid (BkRel w2 ns r 0 (.slice none 0 0) w3) := ⟨[], [], none, none, Sl.nil _ _, hwr, bitz_nil ns, (by intro s hs; cases hs), Nat.le_refl _, hb3, (by intro q hq; cases hq), (by intro q hq; cases hq)⟩
      have HRR : Hid (w2.heap.size ≤ r) := hr
      clear hr hwr hb3
      go_wp2
      go_loopw [8, 35] (fun v i wr => ∃ k : Nat, k ≤ len2 ∧ i = .int .i64 k ∧ BkRel w2 ns r k v wr) (fun _ i _ => len2 - (intOf i).toNat)
      case atStart => exact ⟨0, Nat.zero_le _, rfl, HS.out⟩
      case round =>
        clear HS
        obtain ⟨k, hk, rfl, ss, zs, g, gw, r1, r2, r3, r4, r5, r6, r7, r8⟩ := hrel
        by_cases hlt : k < len2
        · have HK : Hid (Sl wr 3 u8 gw (ivals (wl ss)) ∧ WrZ wr r g zs (cat ns ss).length ∧ Bitz zs (binN (cat ns ss)) (cat ns ss).length ∧ (∀ s ∈ ss, hn ns s ≠ 0) ∧ ss.length ≤ k ∧ Below w2.heap.size w2 wr ∧ (∀ q, g = some q → w2.heap.size ≤ q) ∧ (∀ q, gw = some q → w2.heap.size ≤ q)) := ⟨r1, r2, r3, r4, r5, r6, r7, r8⟩
          have hsl : ss.length ≤ 1000 := by omega
          have HCL : Hid ((cat ns ss).length ≤ 1000000) := (by have := cat_len HCD.out ss; omega : (cat ns ss).length ≤ 1000000)
          obtain ⟨b, off, rfl, hck0⟩ := HR2.out.at k (by rw [HL2.out]; exact hlt)
          have hbw : Below w.heap.size w wr := HB2.out.trans (r6.mono HB2.out.size)
          have hck := (hbw.cell (p := ⟨b, off + k, none⟩) (cell_lt hck0)).trans hck0
          have hzb : 0 ≤ us[k]?.getD 0 ∧ us[k]?.getD 0 < 65536 := by
            have hkl : k < us.length := by rw [HL2.out]; exact hlt
            rw [List.getElem?_eq_getElem hkl]; exact HSH.out _ (List.getElem_mem hkl)
          generalize us[k]?.getD 0 = z at hck hzb
          obtain ⟨s, rfl⟩ := Int.eq_ofNat_of_zero_le hzb.1
          have hs16 : s < 65536 := by omega
          have hwz : IntKind.i64.wrap (s : Int) = (s : Int) := by rw [IntKind.wrap_i64]; omega
          clear r1 r2 r3 r4 r5 r6 r7 r8 hbw hck0 hzb
          go_wp2_with fail
          refine (word_any c (s : Int) ns wr (HCO.out.old HK.out.2.2.2.2.2.1) HCD.out).mono ?_
          rintro e w4 ⟨rfl, hb4⟩
          rw [wordV_nat]
          simp only
          have HB4 : Hid (Below wr.heap.size wr w4) := hb4
          clear hb4 hck
          by_cases h0 : hn ns s = 0
          · have R : Hid (BkRel w2 ns r (k + 1) u8 w4) := by
              obtain ⟨r1, r2, r3, r4, r5, r6, r7, r8⟩ := HK.out
              exact ⟨ss, zs, g, gw, r1.same (fun q hq => HB4.out.block _ (r1.lt hq)), r2.old HB4.out, r3, r4, by omega, r6.trans (HB4.out.mono r6.size), r7, r8⟩
            rw [h0]
            clear HK h0
            go_wp2
            go_roundw
            case rel => exact ⟨k + 1, by omega, by go_num, R.out⟩
            case measure => simp [intOf]; omega
          · have HPW : Hid (∀ W, W = w4 → Calls Try.prog 21 #[.pointer (some ⟨r, 0, none⟩), .int .i64 (turn (hv ns s) (hn ns s)), .int .i64 (hn ns s)] W fun e w' => ∃ zs', Bitz zs' (binN (cat ns (ss ++ [s]))) (cat ns (ss ++ [s])).length ∧ WrPost w4 r g zs' (cat ns (ss ++ [s])).length e w') := by
              rintro W rfl
              exact put_word r g zs ns ss s W HCD.out h0 (HK.out.2.1.old HB4.out) HK.out.2.2.1 HCL.out
            have hnp : 0 < hn ns s := by omega
            obtain ⟨T, hT⟩ : ∃ T, turn (hv ns s) (hn ns s) = T := ⟨_, rfl⟩
            obtain ⟨N, hN⟩ : ∃ N, hn ns s = N := ⟨_, rfl⟩
            rw [hT, hN] at HPW ⊢
            rw [hN] at hnp h0
            have hnz : (0 : Int) < (N : Int) := by omega
            have HH0 : Hid (hn ns s ≠ 0) := by show _ ≠ _; rw [hN]; exact h0
            clear hT hN h0
            go_wp2_with fail
            refine (HPW.out _ rfl).mono ?_
            rintro e w5 ⟨zs', hbz, rfl, g', hwz', hg', hf5⟩
            have HX : Hid (Sl w5 3 u8 gw (ivals (wl ss)) ∧ WrZ w5 r g' zs' (cat ns (ss ++ [s])).length ∧ Bitz zs' (binN (cat ns (ss ++ [s]))) (cat ns (ss ++ [s])).length ∧ Below w2.heap.size w2 w5 ∧ (∀ q, g' = some q → w2.heap.size ≤ q)) := by
              obtain ⟨r1, r2, r3, r4, r5, r6, r7, r8⟩ := HK.out
              have s1 : Sl w4 3 u8 gw (ivals (wl ss)) := r1.same (fun q hq => HB4.out.block _ (r1.lt hq))
              have ap := (r2.old HB4.out).apart s1
              have b4 : Below w2.heap.size w2 w4 := r6.trans (HB4.out.mono r6.size)
              refine ⟨s1.same (fun q hq => hf5.block q (s1.lt hq) (fun e => ap.1 (by rw [hq, e])) (fun e => ap.2 q e.symm hq)), hwz', hbz, Fr.below b4 hf5 HRR.out r7 b4.size, ?_⟩
              intro q hq
              rcases hg' with e | ⟨k, e, hk⟩
              · exact r7 q (by rw [← e]; exact hq)
              · rw [e] at hq; cases hq; have := b4.size; omega
            have HK4 : Hid ((∀ s ∈ ss, hn ns s ≠ 0) ∧ ss.length ≤ k ∧ (∀ q, gw = some q → w2.heap.size ≤ q)) := ⟨HK.out.2.2.2.1, HK.out.2.2.2.2.1, HK.out.2.2.2.2.2.2.2⟩
            clear HK HB4 HPW hbz hwz' hg' hf5 HCL
            go_wp2_with (at_builtin; refine wpList_push_int2 rfl _ _ rfl w5 (s : Int) rfl _ gw (wl ss) rfl HX.out.1 rfl (by rw [wl_len]; omega) ?_)
            intro v6 w6 g6 hs6 hg6 hgr
            have R : Hid (BkRel w2 ns r (k + 1) v6 w6) := by
              obtain ⟨x1, x2, x3, x4, x5⟩ := HX.out
              obtain ⟨k1, k2, k3⟩ := HK4.out
              have ap := x2.apart x1
              have hb : Below w5.heap.size w5 (w5.alloc (.cells #[.int .i64 (s : Int)] 3)) := (Below.refl _ _).alloc (Nat.le_refl _) _
              have x2' := x2.old hb
              refine ⟨ss ++ [s], zs', g', g6, ?_, x2'.same (hgr.block _ x2'.lt (fun e => ap.1 e.symm)) (fun q hq => hgr.block _ (x2'.glt hq) (fun e => ap.2 q hq e.symm)), x3, ?_, ?_, ?_, x5, ?_⟩
              · rw [show wl (ss ++ [s]) = wl ss ++ [(s : Int)] by simp [wl]]; exact hs6
              · intro t ht
                rcases List.mem_append.1 ht with h | h
                · exact k1 t h
                · rw [List.mem_singleton.1 h]; exact HH0.out
              · rw [List.length_append]; simp; omega
              · exact Fr.below (x4.alloc x4.size _) (Fr.grown (r := w2.heap.size) hgr) (Nat.le_refl _) k3 (Nat.le_trans x4.size (by simp))
              · intro q hq
                rcases hg6 with e | ⟨j, e, hj⟩
                · exact k3 q (by rw [← e]; exact hq)
                · rw [e] at hq; cases hq; have := x4.size; omega
            clear hs6 hg6 hgr HX HK4
            go_wp2
            go_roundw
            case rel => exact ⟨k + 1, by omega, by go_num, R.out⟩
            case measure => simp [intOf]; omega
        · obtain ⟨aw, cw, hvw, hcw1, hcw2, _⟩ := r1.shape
          rw [ivals_len, wl_len] at hvw hcw1
          subst hvw
          have HT : Hid ((bitsL zs).take (cat ns ss).length = cat ns ss ∧ (cat ns ss).length ≤ 8 * zs.length ∧ 8 * zs.length < (cat ns ss).length + 8) := bitz_bits (cat_bit ns ss) r3
          have HZB : Hid (Bytes zs) := r3.1
          have hsl : ss.length ≤ 1000 := by omega
          have HZL : Hid (zs.length ≤ 100000) := (by have h1 := HT.out.2.2; have h2 := cat_len HCD.out ss; omega : zs.length ≤ 100000)
          have HWR : Hid (WrZ wr r g zs (cat ns ss).length) := r2
          have HIW : Hid (IRow wr aw (wl ss)) := r1.irow rfl
          have HSS : Hid (∀ s ∈ ss, hn ns s ≠ 0) := r4
          have HBR : Hid (Below w2.heap.size w2 wr) := r6
          obtain ⟨w4, rfl⟩ : ∃ w4, w4 = wr := ⟨_, rfl⟩
          obtain ⟨S, hS⟩ : ∃ S, ss.length = S := ⟨_, rfl⟩
          have HSL : Hid (ss.length = S) := hS
          rw [hS] at hsl hcw1 ⊢
          clear r1 r2 r3 r4 r5 r6 r7 r8 hS
          go_wp2_with fail
          refine (outW_any r g zs _ _ HWR.out (by have := HZL.out; omega)).mono ?_
          rintro e w5 ⟨a5, c5, rfl, hc5, hm5, hn5, hr5, hb5⟩
          have HB5 : Hid (Below w2.heap.size w2 w5) := HBR.out.trans (hb5.mono HBR.out.size)
          have HI5 : Hid (IRow w5 aw (wl ss)) := HIW.out.old hb5
          have HR5 : Hid (Row w5 a5 zs ∧ (a5 = none → c5 = 0)) := ⟨hr5, hn5⟩
          clear hc5 hm5 hn5 hr5 hb5 HIW HWR HBR
          go_wp2_with fail
          refine (reader_any a5 zs.length c5 zs w5 rfl HR5.out.2 HR5.out.1 (by have := HZL.out; omega)).mono ?_
          rintro e w6 ⟨r6, g6, rfl, hrd, hrr, hgg, hb6⟩
          have HS2 : Hid (BrRel w5 r6 g6 (bitsL zs) ns ss 0 w6) := ⟨zs, 0, hrd, ⟨HZB.out, bitsL_bit zs, by simp [cat], by rw [bitsL_len]; omega, by simp [cat], by simp [cat]⟩, hb6⟩
          have HRG : Hid (w5.heap.size ≤ r6 ∧ ∀ k, g6 = some k → w5.heap.size ≤ k) := ⟨hrr, hgg⟩
          have HC5 : Hid (CodeAt w5 c ns) := HCO.out.old HB5.out
          have HBW5 : Hid (Below w.heap.size w w5) := HB2.out.trans (HB5.out.mono HB2.out.size)
          have HLE : Hid ((bitsL zs).length = 8 * zs.length) := bitsL_len zs
          clear hrd hrr hgg hb6 HB5 HR5
          obtain ⟨LB, hLB⟩ : ∃ LB, bitsL zs = LB := ⟨_, rfl⟩
          rw [hLB] at HS2 HT HLE
          clear hLB
          go_wp2
          go_loopw [63] (fun i wr => ∃ k : Nat, k ≤ S ∧ i = .int .i64 k ∧ BrRel w5 r6 g6 LB ns ss k wr) (fun i _ => S - (intOf i).toNat)
          case atStart => exact ⟨0, Nat.zero_le _, rfl, HS2.out⟩
          case round =>
            clear HS2
            obtain ⟨j, hj, rfl, zj, gone, hrd, hri, hbel⟩ := hrel
            obtain ⟨hl1, hl2', hl3⟩ := hri.len
            have HJ : Hid (Rd wr r6 g6 zj gone ∧ RI zj gone LB (cat ns (ss.take j)).length ∧ Below w5.heap.size w5 wr) := ⟨hrd, hri, hbel⟩
            have HJL : Hid (zj.length ≤ 200000 ∧ gone < 8 ∧ gone ≤ 8 * zj.length ∧ (cat ns (ss.take j)).length + 8 * zj.length = LB.length + gone) := by
              refine ⟨?_, hl3, hl2', hl1⟩
              have h1 := HLE.out
              have h2 := HZL.out
              have h3 := hri.le
              omega
            clear hrd hri hbel hl1 hl2' hl3
            by_cases hjl : j < S
            · have hjs : j < ss.length := by rw [HSL.out]; exact hjl
              obtain ⟨b, off, rfl, hck0⟩ := HI5.out.at j (by rw [wl_len]; exact hjs)
              rw [wl_at ss j hjs] at hck0
              have hck := (HJ.out.2.2.cell (p := ⟨b, off + j, none⟩) (cell_lt hck0)).trans hck0
              clear hck0
              have HBG : Hid (bgB (mb (hv ns (ss[j]?.getD 0)) (hn ns (ss[j]?.getD 0))) (LB.drop (cat ns (ss.take j)).length) = true) := cat_begins HT.out.1 j hjs
              have HN0 : Hid (hn ns (ss[j]?.getD 0) ≠ 0) := by
                show _ ≠ _
                rw [List.getElem?_eq_getElem hjs]; exact HSS.out _ (List.getElem_mem hjs)
              have HNE : Hid (cat ns (ss.take (j + 1)) = cat ns (ss.take j) ++ mb (hv ns (ss[j]?.getD 0)) (hn ns (ss[j]?.getD 0))) := cat_take ns ss j hjs
              generalize ss[j]?.getD 0 = s at hck HBG HN0 HNE
              have HX : Hid (nxt ns (bitF zj gone) (8 * zj.length - gone) 15 0 = ((s : Int), 0, hn ns s)) := by
                obtain ⟨q1, q2, q3, q4⟩ := HJL.out
                have hri := HJ.out.2.1
                have hle := hri.le
                have hd : (LB.drop (cat ns (ss.take j)).length).length = 8 * zj.length - gone := by rw [List.length_drop]; omega
                have := nxt_ref HCD.out (nb := bitF zj gone) (bitF_lt zj gone) (L := LB.drop (cat ns (ss.take j)).length) (fun i hi => by
                  rw [List.getElem?_drop, hri.look i (by rw [hd] at hi; omega), bitF_int]) 15 0 (by omega) (Nat.zero_le _) (fun s h1 h2 => by omega) (.inl rfl)
                rw [hd, refN_word HCD.out HN0.out HBG.out] at this
                exact this
              have HNL : Hid (gone + hn ns s ≤ 8 * zj.length) := by
                obtain ⟨q1, q2, q3, q4⟩ := HJL.out
                have h1 := bgB_len HBG.out
                rw [mb_len, List.length_drop] at h1
                have hle := HJ.out.2.1.le
                show _ ≤ _
                omega
              go_wp2_with fail
              refine (next_any c r6 g6 ns zj gone wr (HC5.out.old HJ.out.2.2) HCD.out HJ.out.1 HJ.out.2.1.byt (by have := HJL.out.1; omega) HJL.out.2.1 HJL.out.2.2.1).mono ?_
              rintro e w7 ⟨rfl, hrd7, hf7⟩
              rw [HX.out] at hrd7 ⊢
              have R : Hid (BrRel w5 r6 g6 LB ns ss (j + 1) w7) := by
                refine ⟨_, _, hrd7, ?_, Fr.below HJ.out.2.2 hf7 HRG.out.1 HRG.out.2 HJ.out.2.2.size⟩
                have := HJ.out.2.1.pass (hn ns s) HNL.out
                rw [HNE.out, List.length_append, mb_len]
                exact this
              clear hrd7 hf7 HX HNL HJ HJL HBG HN0 HNE hck
              go_wp2
              go_roundw
              case rel => exact ⟨j + 1, by omega, by go_num, R.out⟩
              case measure => simp [intOf]; omega
            · obtain rfl : j = S := by omega
              have HV : Hid ((zj.length : Int) * 8 - (gone : Int) < 8) := by
                obtain ⟨q1, q2, q3, q4⟩ := HJL.out
                have h1 := HT.out.2.2
                have h2 := HLE.out
                rw [List.take_of_length_le (by rw [HSL.out]; exact Nat.le_refl _)] at q4
                show _ < _
                omega
              have HBZ : Hid (Below w.heap.size w wr) := HBW5.out.trans (HJ.out.2.2.mono HBW5.out.size)
              go_wp2_with fail
              refine (have_any r6 g6 zj gone wr HJ.out.1 (by have := HJL.out.1; omega) HJL.out.2.1).mono ?_
              rintro e w8 ⟨rfl, n8, hw8⟩
              have HB8 : Hid (Below w.heap.size w w8) := by rw [hw8]; exact below_drewN' HBZ.out n8
              clear hw8 HJ HJL HBZ
              have hv := HV.out
              generalize (zj.length : Int) * 8 - (gone : Int) = X at hv ⊢
              clear HV
              go_wp2
              go_ret
              exact ⟨by simp, HB8.out⟩
  · rw [hw2]
    have hf2 : f = 5 ∨ f = 1 := by
      rw [hf]
      cases okLens ls with
      | true => exact .inl rfl
      | false => exact .inr rfl
    clear hw2 hf hno
    rcases hf2 with rfl | rfl
    · go_wp2
      go_ret
      exact ⟨rfl, HB1.out⟩
    · go_wp2
      go_ret
      exact ⟨rfl, HB1.out⟩
end Go.Proofs.Ytjellgkojmgmjaa
