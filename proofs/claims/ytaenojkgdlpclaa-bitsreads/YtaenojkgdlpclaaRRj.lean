import Derived.Test.YtaenojkgdlpclaaRRg
import Derived.Test.YtaenojkgdlpclaaRRi
namespace Go.Proofs.Ytaenojkgdlpclaa
open Go.RowKit

theorem step_push_b {w : World} {ops : Array Oper} {o : Oper} {a : Act} {K : Act → World → Prop} {Q : Exit → Act → World → Prop} {E : Prop} (hgd : o.guard = none) (s x : Operand)
    (ho : o.op = .call { callee := .builtin .append, args := #[s, x], argTypes := #[31, 31] })
    (wr : World) (z : Int) (hw : w = wr.alloc (.cells #[.int .u8 z] 5)) (v : Value) (g : Option Nat) (l : List Int) (hs : a.eval s = v) (hsl : Sl wr 5 v g (vals l)) (hx : a.eval x = .slice (some ⟨wr.heap.size, 0, none⟩) 1 1)
    (hlen : l.length ≤ 1000000)
    (h : ∀ v' w' g', Sl w' 5 v' g' (vals (l ++ [z])) → (g' = g ∨ ∃ k, g' = some k ∧ wr.heap.size ≤ k) → (wr.alloc (.cells #[.int .u8 z] 5)).grownBy w' g → K (a.put o.dst v') w') : if Region.wanted o (yielded ops a.tmps) = true then Oper.wp Try.prog o a w K Q else E := by
  refine step_of_list hgd ?_
  subst hw
  obtain ⟨i0, hi, hz0, hz1, hz2⟩ := info_parts Try.info5
  refine wpList_append_sl hgd s x _ ho 5 i0 (.int .u8 0) 1 Try.underlying31 hi hz0 hz1 hz2 rfl v g (vals l) hs (hsl.same fun q hq => Below.heap_alloc wr _ q (hsl.lt hq)) ⟨wr.heap.size, 0, none⟩ 1 1 [.int .u8 z] hx rfl (cell_one_new _ _ _) (by intro y hy; simp at hy; subst hy; rfl) (by rw [vals_len]; omega) (by rw [vals_len]; unfold maxLen; omega) ?_
  intro v' w' g' h1 h2 h3
  refine ⟨rfl, h v' w' g' (by rw [vals_append]; exact h1) ?_ h3⟩
  rcases h2 with e | ⟨k, e, hk⟩
  · exact .inl e
  · exact .inr ⟨k, e, by simp at hk; omega⟩

def RBytesPost (w : World) (x : Nat) (g : Option Nat) (l L : List Int) (n : Nat) (e : Ending) (w' : World) : Prop :=
  ∃ a c, e = .returned (.slice a l.length c) ∧ Row w' a l ∧ RRf w' x g L n ∧ Fr w w' x g
def lenV : Value → Nat
  | .slice _ n _ => n
  | _ => 0
set_option maxHeartbeats 800000 in
theorem rbytes_no (x : Nat) (g : Option Nat) (L : List Int) (n : Nat) (N : Int) (w : World) (h : RRf w x g L n) (hn : n ≤ 1000000) (h8 : n % 8 ≠ 0) :
    Calls Try.prog 21 #[.pointer (some ⟨x, 0, none⟩), .int .i64 N] w fun e w' => e = .returned (.slice none 0 0) ∧ w' = w := by
  obtain ⟨v, hh, hs⟩ := h
  obtain ⟨q0, q1, f0, f1⟩ := two_cells hh
  have hm : (((n : Int) % 8) == 0) = false := by simp; omega
  clear hh hs
  go_enter Try.func21, Try.ntmps21
  go_wp2
  go_loop [5] (fun o => o = .slice none 0 0) (fun _ => 0)
  case atStart => rfl
  case round =>
    obtain rfl := hrel
    go_wp2
    go_ret
    exact ⟨rfl, rfl⟩

set_option maxHeartbeats 3200000 in
set_option maxRecDepth 100000 in
theorem rbytes_yes (x : Nat) (g : Option Nat) (L zs : List Int) (n K : Nat) (N : Int) (w : World) (h : RRf w x g L n) (hi : RI zs 0 L n) (hl : L.length ≤ 100000) (hK : (K : Int) = min (max N 0) zs.length) :
    Calls Try.prog 21 #[.pointer (some ⟨x, 0, none⟩), .int .i64 N] w fun e w' => RBytesPost w x g (zs.take K) L (n + 8 * K) e w' := by
  have HR : Hid (RRf w x g L n) := h
  have HI : Hid (RI zs 0 L n) := hi
  have HK : Hid ((K : Int) = min (max N 0) zs.length) := hK
  have hKl : K ≤ zs.length := by omega
  have hlen := hi.len
  have h8 : n % 8 = 0 := by have := hi.gn; omega
  have HLN : Hid (n + 8 * zs.length = L.length ∧ n % 8 = 0 ∧ K ≤ zs.length) := ⟨by omega, h8, hKl⟩
  clear h hi hK hlen h8 hKl
  go_enter Try.func21, Try.ntmps21
  go_wp2
  go_loopw [5] (fun v wr => ∃ (k : Nat) (g' : Option Nat), k ≤ K ∧ Sl wr 5 v g' (vals (zs.take k)) ∧ (∀ q, g' = some q → w.heap.size ≤ q) ∧ RRf wr x g L (n + 8 * k) ∧ Fr w wr x g) (fun v _ => K - lenV v)
  case atStart => exact ⟨0, none, Nat.zero_le _, Sl.nil _ _, (by intro q hq; cases hq), HR.out, Fr.refl _ _ _⟩
  case round =>
    clear HR
    obtain ⟨k, g', hk, hsl, hg', hr, hfr⟩ := hrel
    obtain ⟨p, hp⟩ : ∃ p, p = n + 8 * k := ⟨_, rfl⟩
    rw [← hp] at hr
    have HPP : Hid (p = n + 8 * k) := hp
    have hp8 : (((p : Int) % 8) == 0) = true := by simp; have := HLN.out; omega
    have hpl : p ≤ L.length := by have := HLN.out; omega
    obtain ⟨a5, c5, hv5, hl5, hl6, hl7⟩ := hsl.shape
    have hvl : (vals (zs.take k)).length = k := by rw [vals_len, List.length_take]; have := HLN.out; omega
    rw [hvl] at hv5 hl5
    subst hv5
    have C := rhave_any x g L p wr hr (by omega) hpl
    have HR : Hid (RRf wr x g L p) := hr
    obtain ⟨v, hh, hs⟩ := hr
    obtain ⟨av, cv, hv, hl1, hl2, hl3⟩ := hs.shape
    subst hv
    rw [ivals_len] at hh hs hl1
    unfold maxLen at hl2
    obtain ⟨q0, q1, f0, f1⟩ := two_cells hh
    have HH : Hid (wr.heap[x]? = some (.cells #[.slice av L.length cv, .int .i64 p] 30 (0, 0))) := hh
    have HS : Hid (Sl wr 3 (.slice av L.length cv) g (ivals L)) := hs
    have HO : Hid (Sl wr 5 (.slice a5 k c5) g' (vals (zs.take k)) ∧ (∀ q, g' = some q → w.heap.size ≤ q) ∧ Fr w wr x g) := ⟨hsl, hg', hfr⟩
    clear hh hs hsl hg' hfr hvl hl5 hl6 hl7 hp
    by_cases hlt : k < K
    · have hkN : (k : Int) < N := by have := HK.out; omega
      have hpl8 : (8 : Int) ≤ (L.length : Int) - p := by have := HLN.out; have := HPP.out; omega
      have hcv : p < cv := by omega
      go_wp2_with (go_at_call 23; refine C.mono ?_; rintro e w' ⟨rfl, nn, rfl⟩)
      clear C
      obtain ⟨b, off, hab⟩ : ∃ b off, av = some ⟨b, off, none⟩ := by
        rcases HS.out with ⟨_, _, hx⟩ | ⟨b, off, c, cur, h, _⟩
        · have h0 : L.length = 0 := by rw [← ivals_len, hx]; rfl
          omega
        · simp only [Value.slice.injEq] at h; exact ⟨b, off, h.1⟩
      subst hab
      have hcne : ¬ cv = p := by omega
      have hpa : (0 : Int) ≤ (p : Int) + 8 := by omega
      have hpt : ((p : Int) + 8).toNat = p + 8 := by omega
      have hwp1 : IntKind.i64.wrap (p : Int) = p := by rw [IntKind.wrap_i64]; omega
      have hwp2 : wrap64 (p : Int) = p := by unfold wrap64; omega
      have hwp3 : IntKind.i64.wrap ((p : Int) + 8 - 8) = p := by rw [IntKind.wrap_i64]; omega
      have hwp4 : wrap64 ((p : Int) + 8 - 8) = p := by unfold wrap64; omega
      have hp0 : (0 : Int) ≤ (p : Int) := by omega
      have hpc : (p : Int) + 8 ≤ (cv : Int) := by omega
      have hpc8 : (p : Int) + 8 ≤ (L.length : Int) := by omega
      obtain ⟨W1, hW1⟩ : ∃ W1, W1 = (wr.drewN nn).setCell ⟨x, 1, none⟩ (.int .i64 ((p : Int) + 8)) := ⟨_, rfl⟩
      have hsep := HR.out.sep
      have HR1 : Hid (RRf W1 x g L (p + 8)) := by rw [hW1]; exact (HR.out.drewN nn).set1 _ _ (by omega)
      have HF1 : Hid (Fr w W1 x g) := by rw [hW1]; exact (HO.out.2.2.drewN nn).trans (Fr.set x 1 _ g) (.inl rfl)
      have hh1 : W1.heap[x]? = some (.cells #[.slice (some ⟨b, off, none⟩) L.length cv, .int .i64 ((p : Int) + 8)] 30 (0, 0)) := by rw [hW1]; exact two_set1 (w := wr.drewN nn) HH.out
      have HS1 : Hid (Sl W1 3 (.slice (some ⟨b, off, none⟩) L.length cv) g (ivals L)) := by
        rw [hW1]
        exact HS.out.same fun k hk => (Below.heap_setCell (wr.drewN nn) _ _ k (fun e => hsep (by rw [hk, e])))
      have HO1 : Hid (Sl W1 5 (.slice a5 k c5) g' (vals (zs.take k)) ∧ g' ≠ some x) := by
        have hgx : g' ≠ some x := by
          intro e
          obtain ⟨cur, hcur⟩ := HO.out.1.type e
          rw [HH.out] at hcur
          simp at hcur
        refine ⟨?_, hgx⟩
        rw [hW1]
        exact HO.out.1.same fun j hj => (Below.heap_setCell (wr.drewN nn) _ _ j (fun e => hgx (by rw [hj, e])))
      have HIR : Hid (IRow W1 (some ⟨b, off + p, none⟩) ((L.drop p).take 8)) := by
        have := HS1.out.piece rfl p 8 hpl
        show IRow _ _ _
        rw [if_neg (by omega)] at this
        simpa [Addr.add_lit] using this
      have hyb : 0 ≤ binN ((L.drop p).take 8) ∧ binN ((L.drop p).take 8) < 256 := by
        rw [HPP.out, HI.out.byte k (by have := HLN.out; omega)]; exact HI.out.byt.at k
      have HQ : Hid (((L.drop p).take 8).length = 8 ∧ Bit ((L.drop p).take 8)) := ⟨by rw [List.length_take, List.length_drop]; omega, (HI.out.bit.drop _).take _⟩
      have HTK : Hid (zs.take (k + 1) = zs.take k ++ [binN ((L.drop p).take 8)]) := by
        have hkz : k < zs.length := by have := HLN.out; omega
        show _ = _
        rw [HPP.out, HI.out.byte k hkz, List.take_add_one, List.getElem?_eq_getElem hkz]
        rfl
      clear q0 q1 f0 f1
      obtain ⟨q0, q1, f0, f1⟩ := two_cells hh1
      have HH1 : Hid (W1.heap[x]? = some (.cells #[.slice (some ⟨b, off, none⟩) L.length cv, .int .i64 ((p : Int) + 8)] 30 (0, 0))) := hh1
      rw [← hW1]
      clear hW1 hh1 hsep
      generalize (L.drop p).take 8 = q at *
      generalize hY : binN q = y at *
      have HTKL : Hid ((zs.take k).length ≤ 1000000) := by
        show _ ≤ _
        rw [List.length_take]; have := HLN.out; omega
      go_region_held3 (fun w' => w'.cell? ⟨x, 0, none⟩ = some (.slice (some ⟨b, off, none⟩) L.length cv) ∧ w'.cell? ⟨x, 1, none⟩ = some (.int .i64 ((p : Int) + 8))) (first | (exact ⟨by assumption, by assumption⟩) | go_keep) (first
        | (go_at_call 34; refine Calls.mono (number_any _ 8 _ q _ HQ.out.1 (by omega) HQ.out.2 (HIR.out.same ?_)) ?_; exact fun _ _ _ => rfl; rintro e w5 ⟨rfl, rfl⟩; rw [hY])
        | (refine step_push_b rfl _ _ rfl W1.drew _ rfl _ g' (zs.take k) rfl (HO1.out.1.same fun _ _ => rfl) rfl HTKL.out ?_; intro v7 w7 g7 hs7 hg7 hgr7; have hh7 := (hgr7.block x (by have := lt_of_block HH1.out; simp; omega) (fun e => HO1.out.2 e.symm)).trans ((Below.heap_alloc W1.drew _ x (lt_of_block HH1.out)).trans HH1.out); have hq7 := (two_cells hh7).1; have hr7 := (two_cells hh7).2.1))
      have hz7 : IntKind.u8.wrap y = y := by rw [IntKind.wrap_u8]; omega
      rw [hz7, ← HTK.out] at hs7
      have HFIN : Hid (Sl w7 5 v7 g7 (vals (zs.take (k + 1))) ∧ (∀ q, g7 = some q → w.heap.size ≤ q) ∧ RRf w7 x g L (n + 8 * (k + 1)) ∧ Fr w w7 x g) := by
        have hfs := HF1.out.size
        have hf7 : Fr W1 w7 x g' := ⟨hgr7.os, hgr7.tape, hgr7.output, by have := hgr7.size; simp at this; omega, fun j hj h1 h2 => (hgr7.block j (by simp; omega) h2).trans (Below.heap_alloc W1.drew _ j hj)⟩
        have hg0 : ∀ q, g' = some q → w.heap.size ≤ q := HO.out.2.1
        refine ⟨hs7, ?_, ?_, ?_⟩
        · intro q hq
          rcases hg7 with e | ⟨j, e, hj⟩
          · exact hg0 q (by rw [← e]; exact hq)
          · rw [e] at hq; cases hq
            have : W1.heap.size ≤ q := hj
            omega
        · rw [show n + 8 * (k + 1) = p + 8 by have := HPP.out; omega]
          exact ⟨_, hh7, HS1.out.same fun j hj => (hf7.block j (HS1.out.lt hj) (fun e => HR1.out.sep (by rw [hj, e])) (fun e => by
            have := HO1.out.1.apart HS1.out (by decide) e.symm
            exact this hj.symm))⟩
        · refine ⟨hf7.os.trans HF1.out.os, hf7.tape.trans HF1.out.tape, hf7.output.trans HF1.out.output, Nat.le_trans hfs hf7.size, fun j hj h1 h2 => (hf7.block j (by omega) h1 (fun e => by have := hg0 j e.symm; omega)).trans (HF1.out.block j hj h1 h2)⟩
      obtain ⟨a7, c7, hv7, -, -, -⟩ := hs7.shape
      have hl7 : (vals (zs.take (k + 1))).length = k + 1 := by rw [vals_len, List.length_take]; have := HLN.out; omega
      rw [hl7] at hv7
      have HV7 : Hid (v7 = .slice a7 (k + 1) c7) := hv7
      clear hs7 hg7 hgr7 hh7 hq7 hr7 hv7 hl7 q0 q1 f0 f1
      go_wp2
      go_roundw
      case rel => exact ⟨k + 1, g7, by omega, HFIN.out⟩
      case measure => rw [HV7.out]; simp only [lenV]; omega
    · obtain rfl : k = K := by omega
      have HFIN : Hid (∀ q, RBytesPost w x g (zs.take k) L (n + 8 * k) (.returned (.slice a5 k c5)) (wr.drewN q)) := by
        intro q
        refine ⟨a5, c5, ?_, (HO.out.1.same (w' := wr.drewN q) fun _ _ => rfl).row rfl, ?_, HO.out.2.2.drewN q⟩
        · rw [List.length_take, Nat.min_eq_left HLN.out.2.2]
        · rw [← HPP.out]; exact HR.out.drewN q
      by_cases hkN : (k : Int) < N
      · have hpl8 : (L.length : Int) - p < 8 := by have := HLN.out; have := HPP.out; have := HK.out; omega
        go_wp2_with (go_at_call 23; refine C.mono ?_; rintro e w' ⟨rfl, nn, rfl⟩)
        go_ret
        exact HFIN.out nn
      · go_wp2
        go_ret
        exact HFIN.out 0
end Go.Proofs.Ytaenojkgdlpclaa
