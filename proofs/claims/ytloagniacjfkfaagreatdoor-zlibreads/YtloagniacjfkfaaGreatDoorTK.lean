/- The reference's Bytes, and what stands behind a run. -/
import Derived.Test.YtloagniacjfkfaaGreatDoorTF
namespace Go.Proofs.YtloagniacjfkfaaGreatDoor
open Go.RowKit
def NewByI (w : World) (zs : List Int) (e : Ending) (w' : World) : Prop :=
  ∃ a cap, e = .returned (.slice a zs.length cap) ∧ zs.length ≤ cap ∧ cap ≤ maxLen ∧ (a = none → cap = 0) ∧ Row w' a zs ∧ Below w.heap.size w w'
/-- One byte more at the end of a slice of the call's own. -/
theorem wpList_push_byte {w : World} {ops : Array Oper} {rest : List Oper} {o : Oper} {a : Act} {Q : Exit → Act → World → Prop} (hgd : o.guard = none) (s x : Operand)
    (ho : o.op = .call { callee := .builtin .append, args := #[s, x], argTypes := #[22, 22] })
    (B : Nat) (w0 wr : World) (z : Int) (hw : w = wr.alloc (.cells #[.int .u8 z] 5)) (v : Value) (g : Option Nat) (l : List Int) (hs : a.eval s = v) (hsl : Sl wr 5 v g (vals l)) (hx : a.eval x = .slice (some ⟨wr.heap.size, 0, none⟩) 1 1)
    (hlen : l.length ≤ 1000000) (hb : Below B w0 wr) (hB : B ≤ wr.heap.size) (hg : ∀ k, g = some k → B ≤ k)
    (h : ∀ v' w' g', Sl w' 5 v' g' (vals (l ++ [z])) → (∀ k, g' = some k → B ≤ k) → Below B w0 w' → wpList Tryz.prog ops Q rest (a.put o.dst v') w') : wpList Tryz.prog ops Q (o :: rest) a w := by
  subst hw
  obtain ⟨i0, hi, hz0, hz1, hz2⟩ := info_parts Tryz.info5
  refine wpList_append_sl hgd s x _ ho 5 i0 (.int .u8 0) 1 Tryz.underlying22 hi hz0 hz1 hz2 rfl v g (vals l) hs (hsl.same fun q hq => Below.heap_alloc wr _ q (hsl.lt hq)) ⟨wr.heap.size, 0, none⟩ 1 1 [.int .u8 z] hx rfl (cell_one_new _ _ _) (by intro y hy; simp at hy; subst hy; rfl) (by rw [vals_len]; omega) (by rw [vals_len]; unfold maxLen; omega) ?_
  intro v' w' g' h1 h2 h3
  refine h v' w' g' (by rw [vals_append]; exact h1) ?_ ((hb.alloc hB _).grown h3 (by simp; omega) hg)
  intro k hk
  rcases h2 with e | ⟨q, e, hq⟩
  · exact hg k (by rw [← e]; exact hk)
  · rw [e] at hk; cases hk; simp at hq; omega

set_option maxHeartbeats 1600000 in
theorem refBytes_any (a : Option Addr) (n cap : Nat) (l : List Int) (w : World) (hn : l.length = n) (hc : n ≤ cap) (_hm : cap ≤ maxLen) (hs : n ≤ 1000000) (hb : Bit l) (hr : IRow w a l) :
    Calls Tryz.prog 26 #[.slice a n cap] w fun e w' => NewByI w (chunkL l ((n + 7) / 8)) e w' := by
  have HN : Hid (l.length = n) := hn
  have HB : Hid (Bit l) := hb
  have HR : Hid (IRow w a l) := hr
  obtain ⟨B, hB⟩ : ∃ B, B = w.heap.size := ⟨_, rfl⟩
  have HBW : Hid (B = w.heap.size) := hB
  clear hn hb hr hB
  unfold maxLen at _hm
  go_enter Tryz.func26, Tryz.ntmps26
  go_wp2
  go_loopw [3, 4] (fun o i wr => ∃ k : Nat, ∃ g, 8 * k ≤ n + 7 ∧ i = .int .i64 ((8 * k : Nat) : Int) ∧ Sl wr 5 o g (vals (chunkL l k)) ∧ (∀ q, g = some q → B ≤ q) ∧ Below B w wr) (fun _ i _ => n + 8 - (intOf i).toNat)
  case atStart => exact ⟨0, none, by omega, rfl, Sl.nil _ _, (by intro k hk; cases hk), Below.refl _ _⟩
  case round =>
    obtain ⟨k, g, hk, rfl, hsl, hg, hbel⟩ := hrel
    by_cases hlt : 8 * k < n
    · have hlt' : ((8 * k : Nat) : Int) < (n : Int) := by omega
      obtain ⟨b, off, hab, hcell⟩ : ∃ b off, a = some ⟨b, off, none⟩ ∧ ∀ i, i < l.length → w.cell? ⟨b, off + i, none⟩ = some (.int .i64 (l[i]?.getD 0)) := by
        rcases HR.out with h | h
        · have := HN.out; rw [h] at this; simp at this; omega
        · exact h
      have HIR : Hid (IRow wr (some ⟨b, off + 8 * k, none⟩) ((l.drop (8 * k)).take 8)) := by
        refine .inr ⟨b, off + 8 * k, rfl, fun i hi => ?_⟩
        rw [List.length_take, List.length_drop] at hi
        have hbw : b < B := by rw [HBW.out]; have := cell_lt (hcell 0 (by have := HN.out; omega)); exact this
        have h8 : i < 8 := by omega
        rw [hbel.cell (p := ⟨b, off + 8 * k + i, none⟩) hbw, Nat.add_assoc, hcell (8 * k + i) (by omega)]
        simp [List.getElem?_drop, h8]
      have HBT : Hid (Bit ((l.drop (8 * k)).take 8)) := (HB.out.drop _).take _
      have hcb := chunk_byte HB.out k
      have HCS : Hid (chunkL l (k + 1) = chunkL l k ++ [binN ((l.drop (8 * k)).take 8)] ∧ (chunkL l k).length ≤ 1000000) := ⟨chunkL_snoc l k, by rw [chunkL_len]; omega⟩
      have HBs : Hid (B ≤ wr.heap.size) := (by have := hbel.size; have := HBW.out; omega : B ≤ wr.heap.size)
      have HTL : Hid (((l.drop (8 * k)).take 8).length = min 8 (n - 8 * k)) := by rw [List.length_take, List.length_drop, HN.out]; rfl
      subst hab
      clear hcell
      generalize (l.drop (8 * k)).take 8 = q at *
      by_cases h8 : 8 * k + 8 ≤ n
      · have h8' : ((8 * k : Nat) : Int) + 8 ≤ (n : Int) := by omega
        go_wp2_with fail
        refine (number_any _ 8 _ q _ (by have : q.length = min 8 (n - 8 * k) := HTL.out; omega) (by omega) HBT.out HIR.out).mono ?_
        rintro e w1 ⟨rfl, rfl⟩
        go_wp2_with (at_builtin; refine wpList_push_byte rfl _ _ rfl B w _ (binN q) rfl _ g (chunkL l k) rfl hsl rfl HCS.out.2 hbel HBs.out hg ?_)
        intro v' w' g' hsl' hg' hbel'
        clear hsl hg hbel
        go_wp2
        go_roundw
        case rel => exact ⟨k + 1, g', by omega, by go_num, by rw [HCS.out.1]; exact hsl', hg', hbel'⟩
        case measure => simp only [intOf]; omega
      · have h8' : (n : Int) < ((8 * k : Nat) : Int) + 8 := by omega
        go_wp2_with fail
        refine (number_any _ (n - 8 * k) _ q _ (by have : q.length = min 8 (n - 8 * k) := HTL.out; omega) (by omega) HBT.out HIR.out).mono ?_
        rintro e w1 ⟨rfl, rfl⟩
        go_wp2_with (at_builtin; refine wpList_push_byte rfl _ _ rfl B w _ (binN q) rfl _ g (chunkL l k) rfl hsl rfl HCS.out.2 hbel HBs.out hg ?_)
        intro v' w' g' hsl' hg' hbel'
        clear hsl hg hbel
        go_wp2
        go_roundw
        case rel => exact ⟨k + 1, g', by omega, by go_num, by rw [HCS.out.1]; exact hsl', hg', hbel'⟩
        case measure => simp only [intOf]; omega
    · have hk2 : k = (n + 7) / 8 := by omega
      have HK2 : Hid (k = (n + 7) / 8) := hk2
      clear hk2
      obtain ⟨a', c', hv, k1, k2, k3⟩ := hsl.shape
      rw [vals_len] at hv k1
      have hge : (n : Int) ≤ ((8 * k : Nat) : Int) := by omega
      go_wp2
      go_ret
      unfold NewByI
      rw [← HK2.out]
      subst hv
      exact ⟨a', c', rfl, k1, k2, k3, hsl.row rfl, by rw [← HBW.out]; exact hbel⟩
theorem binN_inj : ∀ {l m : List Int}, Bit l → Bit m → l.length = m.length → binN l = binN m → l = m
  | [], [], _, _, _, _ => rfl
  | [], _ :: _, _, _, h, _ => by simp at h
  | _ :: _, [], _, _, h, _ => by simp at h
  | x :: r, y :: q, h1, h2, hl, he => by
    have a1 := h1 x (by simp)
    have a2 := h2 y (by simp)
    simp only [binN] at he
    have e1 : x = y := by omega
    have e2 : r = q := binN_inj (fun z hz => h1 z (by simp [hz])) (fun z hz => h2 z (by simp [hz])) (by simpa using hl) (by omega)
    rw [e1, e2]
theorem bitsL_chunk {l : List Int} (hb : Bit l) (n : Nat) (hl : l.length = 8 * n) : bitsL (chunkL l n) = l := by
  refine binN_inj (bitsL_bit _) hb (by rw [bitsL_len, chunkL_len, hl]) ?_
  rw [binN_bitsL (chunkL_bytes hb n), litN_chunk l n (by omega), ← hl, List.take_length]
section
variable {w : World} {r : Nat} {gb go gk : Option Nat} {B out : List Int} {lim E : Int} {dn : Bool}
def RrPost (w : World) (B : List Int) (dn : Bool) (e : Ending) (w' : World) : Prop :=
  ∃ a c zs, e = .returned (.slice a zs.length c) ∧ Row w' a zs ∧ Below w.heap.size w w' ∧ (dn = false → zs = []) ∧ (dn = true → Bytes zs ∧ bitsL zs = B.drop (B.length % 8))
end
end Go.Proofs.YtloagniacjfkfaaGreatDoor
