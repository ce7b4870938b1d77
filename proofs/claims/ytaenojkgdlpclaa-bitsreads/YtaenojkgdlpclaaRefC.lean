import Derived.Test.YtaenojkgdlpclaaRefB
namespace Go.Proofs.Ytaenojkgdlpclaa
open Go.RowKit

/-- One byte more at the end of a slice of the call's own. -/
theorem wpList_push_byte {w : World} {ops : Array Oper} {rest : List Oper} {o : Oper} {a : Act} {Q : Exit → Act → World → Prop} (hgd : o.guard = none) (s x : Operand)
    (ho : o.op = .call { callee := .builtin .append, args := #[s, x], argTypes := #[31, 31] })
    (B : Nat) (w0 wr : World) (z : Int) (hw : w = wr.alloc (.cells #[.int .u8 z] 5)) (v : Value) (g : Option Nat) (l : List Int) (hs : a.eval s = v) (hsl : Sl wr 5 v g (vals l)) (hx : a.eval x = .slice (some ⟨wr.heap.size, 0, none⟩) 1 1)
    (hlen : l.length ≤ 1000000) (hb : Below B w0 wr) (hB : B ≤ wr.heap.size) (hg : ∀ k, g = some k → B ≤ k)
    (h : ∀ v' w' g', Sl w' 5 v' g' (vals (l ++ [z])) → (∀ k, g' = some k → B ≤ k) → Below B w0 w' → wpList Try.prog ops Q rest (a.put o.dst v') w') : wpList Try.prog ops Q (o :: rest) a w := by
  subst hw
  obtain ⟨i0, hi, hz0, hz1, hz2⟩ := info_parts Try.info5
  refine wpList_append_sl hgd s x _ ho 5 i0 (.int .u8 0) 1 Try.underlying31 hi hz0 hz1 hz2 rfl v g (vals l) hs (hsl.same fun q hq => Below.heap_alloc wr _ q (hsl.lt hq)) ⟨wr.heap.size, 0, none⟩ 1 1 [.int .u8 z] hx rfl (cell_one_new _ _ _) (by intro y hy; simp at hy; subst hy; rfl) (by rw [vals_len]; omega) (by rw [vals_len]; unfold maxLen; omega) ?_
  intro v' w' g' h1 h2 h3
  refine h v' w' g' (by rw [vals_append]; exact h1) ?_ ((hb.alloc hB _).grown h3 (by simp; omega) hg)
  intro k hk
  rcases h2 with e | ⟨q, e, hq⟩
  · exact hg k (by rw [← e]; exact hk)
  · rw [e] at hk; cases hk; simp at hq; omega

set_option maxHeartbeats 1600000 in
theorem refBytes_any (a : Option Addr) (n cap : Nat) (l : List Int) (w : World) (hn : l.length = n) (hc : n ≤ cap) (_hm : cap ≤ maxLen) (hs : n ≤ 1000000) (hb : Bit l) (hr : IRow w a l) :
    Calls Try.prog 30 #[.slice a n cap] w fun e w' => NewBytes w (chunkL l ((n + 7) / 8)) e w' := by
  have HN : Hid (l.length = n) := hn
  have HB : Hid (Bit l) := hb
  have HR : Hid (IRow w a l) := hr
  obtain ⟨B, hB⟩ : ∃ B, B = w.heap.size := ⟨_, rfl⟩
  have HBW : Hid (B = w.heap.size) := hB
  clear hn hb hr hB
  unfold maxLen at _hm
  go_enter Try.func30, Try.ntmps30
  go_wp2
  go_loopw [3, 4] (fun o i wr => ∃ k : Nat, ∃ g, 8 * k ≤ n + 7 ∧ i = .int .i64 ((8 * k : Nat) : Int) ∧ Sl wr 5 o g (vals (chunkL l k)) ∧ (∀ q, g = some q → B ≤ q) ∧ Below B w wr) (fun _ i _ => n + 8 - (intOf i).toNat)
  case atStart => exact ⟨0, none, by omega, rfl, Sl.nil _ _, (by intro k hk; cases hk), Below.refl _ _⟩
  case round =>
    obtain ⟨k, g, hk, rfl, hsl, hg, hbel⟩ := hrel
    by_cases hlt : 8 * k < n
    · have hlt' : ((8 * k : Nat) : Int) < (n : Int) := by omega
      obtain ⟨b, off, hab, hcell⟩ : ∃ b off, a = some ⟨b, off, none⟩ ∧ ∀ i, i < l.length → w.cell? ⟨b, off + i, none⟩ = some (.int .i64 (l[i]?.getD 0)) := by
        rcases HR.out with h | h
        · have := HN.out; rw [h] at this; simp at this; omega
        · exact h
      have HIR : Hid (IRow wr (some ⟨b, off + 8 * k, none⟩) ((l.drop (8 * k)).take 8)) := by
        refine .inr ⟨b, off + 8 * k, rfl, fun i hi => ?_⟩
        rw [List.length_take, List.length_drop] at hi
        have hbw : b < B := by rw [HBW.out]; have := cell_lt (hcell 0 (by have := HN.out; omega)); exact this
        have h8 : i < 8 := by omega
        rw [hbel.cell (p := ⟨b, off + 8 * k + i, none⟩) hbw, Nat.add_assoc, hcell (8 * k + i) (by omega)]
        simp [List.getElem?_drop, h8]
      have HBT : Hid (Bit ((l.drop (8 * k)).take 8)) := (HB.out.drop _).take _
      have hcb := chunk_byte HB.out k
      have HCS : Hid (chunkL l (k + 1) = chunkL l k ++ [binN ((l.drop (8 * k)).take 8)] ∧ (chunkL l k).length ≤ 1000000) := ⟨chunkL_snoc l k, by rw [chunkL_len]; omega⟩
      have HBs : Hid (B ≤ wr.heap.size) := (by have := hbel.size; have := HBW.out; omega : B ≤ wr.heap.size)
      have HTL : Hid (((l.drop (8 * k)).take 8).length = min 8 (n - 8 * k)) := by rw [List.length_take, List.length_drop, HN.out]; rfl
      subst hab
      clear hcell
      generalize (l.drop (8 * k)).take 8 = q at *
      by_cases h8 : 8 * k + 8 ≤ n
      · have h8' : ((8 * k : Nat) : Int) + 8 ≤ (n : Int) := by omega
        go_wp2_with fail
        refine (number_any _ 8 _ q _ (by have : q.length = min 8 (n - 8 * k) := HTL.out; omega) (by omega) HBT.out HIR.out).mono ?_
        rintro e w1 ⟨rfl, rfl⟩
        go_wp2_with (at_builtin; refine wpList_push_byte rfl _ _ rfl B w _ (binN q) rfl _ g (chunkL l k) rfl hsl rfl HCS.out.2 hbel HBs.out hg ?_)
        intro v' w' g' hsl' hg' hbel'
        clear hsl hg hbel
        go_wp2
        go_roundw
        case rel => exact ⟨k + 1, g', by omega, by go_num, by rw [HCS.out.1]; exact hsl', hg', hbel'⟩
        case measure => simp only [intOf]; omega
      · have h8' : (n : Int) < ((8 * k : Nat) : Int) + 8 := by omega
        go_wp2_with fail
        refine (number_any _ (n - 8 * k) _ q _ (by have : q.length = min 8 (n - 8 * k) := HTL.out; omega) (by omega) HBT.out HIR.out).mono ?_
        rintro e w1 ⟨rfl, rfl⟩
        go_wp2_with (at_builtin; refine wpList_push_byte rfl _ _ rfl B w _ (binN q) rfl _ g (chunkL l k) rfl hsl rfl HCS.out.2 hbel HBs.out hg ?_)
        intro v' w' g' hsl' hg' hbel'
        clear hsl hg hbel
        go_wp2
        go_roundw
        case rel => exact ⟨k + 1, g', by omega, by go_num, by rw [HCS.out.1]; exact hsl', hg', hbel'⟩
        case measure => simp only [intOf]; omega
    · have hk2 : k = (n + 7) / 8 := by omega
      have HK2 : Hid (k = (n + 7) / 8) := hk2
      clear hk2
      obtain ⟨a', c', hv, k1, k2, k3⟩ := hsl.shape
      rw [vals_len] at hv k1
      have hge : (n : Int) ≤ ((8 * k : Nat) : Int) := by omega
      go_wp2
      go_ret
      unfold NewBytes
      rw [← HK2.out]
      subst hv
      exact ⟨a', c', rfl, k1, k2, k3, hsl.row rfl, by rw [← HBW.out]; exact hbel⟩
end Go.Proofs.Ytaenojkgdlpclaa
