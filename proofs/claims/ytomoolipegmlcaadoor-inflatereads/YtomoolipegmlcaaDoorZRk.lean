/- Joined: Rq6 Rr6. -/
import Derived.Test.YtomoolipegmlcaaDoorZRf
import Derived.Test.YtomoolipegmlcaaDoorZRj
import Derived.Test.YtomoolipegmlcaaDoorZr
/- The reference's Bytes, and what stands behind a run. -/
namespace Go.Proofs.YtomoolipegmlcaaDoor
open Go.RowKit
def NewBytes (w : World) (zs : List Int) (e : Ending) (w' : World) : Prop :=
  ∃ a cap, e = .returned (.slice a zs.length cap) ∧ zs.length ≤ cap ∧ cap ≤ maxLen ∧ (a = none → cap = 0) ∧ Row w' a zs ∧ Below w.heap.size w w'
/-- One byte more at the end of a slice of the call's own. -/
theorem wpList_push_byte {w : World} {ops : Array Oper} {rest : List Oper} {o : Oper} {a : Act} {Q : Exit → Act → World → Prop} (hgd : o.guard = none) (s x : Operand)
    (ho : o.op = .call { callee := .builtin .append, args := #[s, x], argTypes := #[22, 22] })
    (B : Nat) (w0 wr : World) (z : Int) (hw : w = wr.alloc (.cells #[.int .u8 z] 5)) (v : Value) (g : Option Nat) (l : List Int) (hs : a.eval s = v) (hsl : Sl wr 5 v g (vals l)) (hx : a.eval x = .slice (some ⟨wr.heap.size, 0, none⟩) 1 1)
    (hlen : l.length ≤ 1000000) (hb : Below B w0 wr) (hB : B ≤ wr.heap.size) (hg : ∀ k, g = some k → B ≤ k)
    (h : ∀ v' w' g', Sl w' 5 v' g' (vals (l ++ [z])) → (∀ k, g' = some k → B ≤ k) → Below B w0 w' → wpList Tryd.prog ops Q rest (a.put o.dst v') w') : wpList Tryd.prog ops Q (o :: rest) a w := by
  subst hw
  obtain ⟨i0, hi, hz0, hz1, hz2⟩ := info_parts Tryd.info5
  refine wpList_append_sl hgd s x _ ho 5 i0 (.int .u8 0) 1 Tryd.underlying22 hi hz0 hz1 hz2 rfl v g (vals l) hs (hsl.same fun q hq => Below.heap_alloc wr _ q (hsl.lt hq)) ⟨wr.heap.size, 0, none⟩ 1 1 [.int .u8 z] hx rfl (cell_one_new _ _ _) (by intro y hy; simp at hy; subst hy; rfl) (by rw [vals_len]; omega) (by rw [vals_len]; unfold maxLen; omega) ?_
  intro v' w' g' h1 h2 h3
  refine h v' w' g' (by rw [vals_append]; exact h1) ?_ ((hb.alloc hB _).grown h3 (by simp; omega) hg)
  intro k hk
  rcases h2 with e | ⟨q, e, hq⟩
  · exact hg k (by rw [← e]; exact hk)
  · rw [e] at hk; cases hk; simp at hq; omega

set_option maxHeartbeats 1600000 in
theorem refBytes_any (a : Option Addr) (n cap : Nat) (l : List Int) (w : World) (hn : l.length = n) (hc : n ≤ cap) (_hm : cap ≤ maxLen) (hs : n ≤ 1000000) (hb : Bit l) (hr : IRow w a l) :
    Calls Tryd.prog 28 #[.slice a n cap] w fun e w' => NewBytes w (chunkL l ((n + 7) / 8)) e w' := by
  have HN : Hid (l.length = n) := hn
  have HB : Hid (Bit l) := hb
  have HR : Hid (IRow w a l) := hr
  obtain ⟨B, hB⟩ : ∃ B, B = w.heap.size := ⟨_, rfl⟩
  have HBW : Hid (B = w.heap.size) := hB
  clear hn hb hr hB
  unfold maxLen at _hm
  go_enter Tryd.func28, Tryd.ntmps28
  go_wp2
  go_loopw [3, 4] (fun o i wr => ∃ k : Nat, ∃ g, 8 * k ≤ n + 7 ∧ i = .int .i64 ((8 * k : Nat) : Int) ∧ Sl wr 5 o g (vals (chunkL l k)) ∧ (∀ q, g = some q → B ≤ q) ∧ Below B w wr) (fun _ i _ => n + 8 - (intOf i).toNat)
  case atStart => exact ⟨0, none, by omega, rfl, Sl.nil _ _, (by intro k hk; cases hk), Below.refl _ _⟩
  case round =>
    obtain ⟨k, g, hk, rfl, hsl, hg, hbel⟩ := hrel
    by_cases hlt : 8 * k < n
    · have hlt' : ((8 * k : Nat) : Int) < (n : Int) := by omega
      obtain ⟨b, off, hab, hcell⟩ : ∃ b off, a = some ⟨b, off, none⟩ ∧ ∀ i, i < l.length → w.cell? ⟨b, off + i, none⟩ = some (.int .i64 (l[i]?.getD 0)) := by
        rcases HR.out with h | h
        · have := HN.out; rw [h] at this; simp at this; omega
        · exact h
      have HIR : Hid (IRow wr (some ⟨b, off + 8 * k, none⟩) ((l.drop (8 * k)).take 8)) := by
        refine .inr ⟨b, off + 8 * k, rfl, fun i hi => ?_⟩
        rw [List.length_take, List.length_drop] at hi
        have hbw : b < B := by rw [HBW.out]; have := cell_lt (hcell 0 (by have := HN.out; omega)); exact this
        have h8 : i < 8 := by omega
        rw [hbel.cell (p := ⟨b, off + 8 * k + i, none⟩) hbw, Nat.add_assoc, hcell (8 * k + i) (by omega)]
        simp [List.getElem?_drop, h8]
      have HBT : Hid (Bit ((l.drop (8 * k)).take 8)) := (HB.out.drop _).take _
      have hcb := chunk_byte HB.out k
      have HCS : Hid (chunkL l (k + 1) = chunkL l k ++ [binN ((l.drop (8 * k)).take 8)] ∧ (chunkL l k).length ≤ 1000000) := ⟨chunkL_snoc l k, by rw [chunkL_len]; omega⟩
      have HBs : Hid (B ≤ wr.heap.size) := (by have := hbel.size; have := HBW.out; omega : B ≤ wr.heap.size)
      have HTL : Hid (((l.drop (8 * k)).take 8).length = min 8 (n - 8 * k)) := by rw [List.length_take, List.length_drop, HN.out]; rfl
      subst hab
      clear hcell
      generalize (l.drop (8 * k)).take 8 = q at *
      by_cases h8 : 8 * k + 8 ≤ n
      · have h8' : ((8 * k : Nat) : Int) + 8 ≤ (n : Int) := by omega
        go_wp2_with fail
        refine (number_any _ 8 _ q _ (by have : q.length = min 8 (n - 8 * k) := HTL.out; omega) (by omega) HBT.out HIR.out).mono ?_
        rintro e w1 ⟨rfl, rfl⟩
        go_wp2_with (at_builtin; refine wpList_push_byte rfl _ _ rfl B w _ (binN q) rfl _ g (chunkL l k) rfl hsl rfl HCS.out.2 hbel HBs.out hg ?_)
        intro v' w' g' hsl' hg' hbel'
        clear hsl hg hbel
        go_wp2
        go_roundw
        case rel => exact ⟨k + 1, g', by omega, by go_num, by rw [HCS.out.1]; exact hsl', hg', hbel'⟩
        case measure => simp only [intOf]; omega
      · have h8' : (n : Int) < ((8 * k : Nat) : Int) + 8 := by omega
        go_wp2_with fail
        refine (number_any _ (n - 8 * k) _ q _ (by have : q.length = min 8 (n - 8 * k) := HTL.out; omega) (by omega) HBT.out HIR.out).mono ?_
        rintro e w1 ⟨rfl, rfl⟩
        go_wp2_with (at_builtin; refine wpList_push_byte rfl _ _ rfl B w _ (binN q) rfl _ g (chunkL l k) rfl hsl rfl HCS.out.2 hbel HBs.out hg ?_)
        intro v' w' g' hsl' hg' hbel'
        clear hsl hg hbel
        go_wp2
        go_roundw
        case rel => exact ⟨k + 1, g', by omega, by go_num, by rw [HCS.out.1]; exact hsl', hg', hbel'⟩
        case measure => simp only [intOf]; omega
    · have hk2 : k = (n + 7) / 8 := by omega
      have HK2 : Hid (k = (n + 7) / 8) := hk2
      clear hk2
      obtain ⟨a', c', hv, k1, k2, k3⟩ := hsl.shape
      rw [vals_len] at hv k1
      have hge : (n : Int) ≤ ((8 * k : Nat) : Int) := by omega
      go_wp2
      go_ret
      unfold NewBytes
      rw [← HK2.out]
      subst hv
      exact ⟨a', c', rfl, k1, k2, k3, hsl.row rfl, by rw [← HBW.out]; exact hbel⟩
theorem binN_inj : ∀ {l m : List Int}, Bit l → Bit m → l.length = m.length → binN l = binN m → l = m
  | [], [], _, _, _, _ => rfl
  | [], _ :: _, _, _, h, _ => by simp at h
  | _ :: _, [], _, _, h, _ => by simp at h
  | x :: r, y :: q, h1, h2, hl, he => by
    have a1 := h1 x (by simp)
    have a2 := h2 y (by simp)
    simp only [binN] at he
    have e1 : x = y := by omega
    have e2 : r = q := binN_inj (fun z hz => h1 z (by simp [hz])) (fun z hz => h2 z (by simp [hz])) (by simpa using hl) (by omega)
    rw [e1, e2]
theorem bitsL_chunk {l : List Int} (hb : Bit l) (n : Nat) (hl : l.length = 8 * n) : bitsL (chunkL l n) = l := by
  refine binN_inj (bitsL_bit _) hb (by rw [bitsL_len, chunkL_len, hl]) ?_
  rw [binN_bitsL (chunkL_bytes hb n), litN_chunk l n (by omega), ← hl, List.take_length]
section
variable {w : World} {r : Nat} {gb go gk : Option Nat} {B out : List Int} {lim E : Int} {dn : Bool}
def RrPost (w : World) (B : List Int) (dn : Bool) (e : Ending) (w' : World) : Prop :=
  ∃ a c zs, e = .returned (.slice a zs.length c) ∧ Row w' a zs ∧ Below w.heap.size w w' ∧ (dn = false → zs = []) ∧ (dn = true → Bytes zs ∧ bitsL zs = B.drop (B.length % 8))
set_option maxHeartbeats 1600000 in
set_option maxRecDepth 20000 in
theorem rrest_any (h : RunAt w r gb go gk B out lim E dn) (hB : Bit B) (hl : B.length ≤ 1000000) : Calls Tryd.prog 17 #[.pointer (some ⟨r, 0, none⟩)] w fun e w' => RrPost w B dn e w' := by
  obtain ⟨vb, vo, vk, all, ks, h1, h2, h3, h4, h5⟩ := h
  have k0 := h1.cells.1
  have k5 := h1.cells.2.2.2.2.1
  cases dn with
  | false =>
    have HP : Hid (RrPost w B false (.returned (.slice none 0 0)) w) := ⟨none, 0, [], rfl, .inl rfl, Below.refl _ _, fun _ => rfl, (fun e => by cases e)⟩
    clear h1 h2 h3 h4 h5
    go_enter Tryd.func17, Tryd.ntmps17
    go_wp2
    go_ret
    exact HP.out
  | true =>
    obtain ⟨ab, cb, hv, hle, hcm, hnn⟩ := h2.shape
    rw [ivals_len] at hv hle
    subst hv
    obtain ⟨n, hn⟩ : ∃ n, B.length % 8 = n := ⟨_, rfl⟩
    have hni : ((B.length : Int)).tmod 8 = (n : Int) := by rw [Int.tmod_eq_emod_of_nonneg (by omega)]; omega
    have hnl : n ≤ B.length := by omega
    have hc := h2.cutN n (by rw [ivals_len]; exact hnl)
    rw [ivals_len, show (ivals B).drop n = ivals (B.drop n) by simp [ivals]] at hc
    obtain ⟨a2, ha2⟩ : ∃ a2, (if cb = n then ab else Option.map (fun x => x.add n) ab) = a2 := ⟨_, rfl⟩
    rw [ha2] at hc
    have hlen : (B.drop n).length = B.length - n := by rw [List.length_drop]
    have hmx : cb ≤ maxLen := hcm
    have HBY : Hid (∀ m, Calls Tryd.prog 28 #[.slice a2 (B.length - n) (cb - n)] (w.drewN m) fun e w' => RrPost w B true e w' ∧ w'.cell? ⟨r, 0, none⟩ = some (.slice ab B.length cb)) := by
      intro m
      refine (refBytes_any a2 (B.length - n) (cb - n) (B.drop n) (w.drewN m) hlen (by omega) (by unfold maxLen at *; omega) (by omega) (hB.drop n) (hc.irow rfl)).mono ?_
      rintro e w' ⟨a, c, rfl, q1, q2, q3, q4, q5⟩
      refine ⟨⟨a, c, _, rfl, q4, ⟨q5.os, q5.tape, q5.output, q5.size, q5.block⟩, (fun e => by cases e), fun _ => ⟨chunkL_bytes (hB.drop n) _, ?_⟩⟩, ?_⟩
      · rw [hn, show (B.length - n + 7) / 8 = (B.length - n) / 8 by omega]
        exact bitsL_chunk (hB.drop n) _ (by rw [hlen]; omega)
      · exact (q5.cell (p := ⟨r, 0, none⟩) h1.lt).trans k0
    have hn8 : n < 8 := by omega
    have hnci : (n : Int) ≤ (B.length : Int) ∧ (B.length : Int) ≤ (cb : Int) := by omega
    clear h1 h2 h3 h4 h5 hc hmx hn hlen
    obtain ⟨M, hM⟩ : ∃ M, B.length = M := ⟨_, rfl⟩
    rw [hM] at HBY k0 hni hnl hle hnci
    clear hM
    by_cases hcn : cb = n
    · rw [if_pos hcn] at ha2
      subst ha2
      rw [show cb - n = 0 by omega] at HBY
      go_enter Tryd.func17, Tryd.ntmps17
      go_wp2
      refine wp_region_still_tail 11 (by kernel_rfl) (by kernel_rfl) ?_
      simp only [List.take_succ_cons, List.take_zero, List.drop_succ_cons, List.drop_zero]
      rw [show ({ w with drawn := w.drawn + 1 } : World) = w.drewN 1 from rfl]
      iterate 9 still_step
      with_reducible refine wpStill_step (fun K' hK' => ?_)
      go_simp
      refine hK' _ ?_
      clear hK' K'
      with_reducible refine wpStill_step (fun K' hK' => ?_)
      go_simp
      refine hK' _ ?_
      clear hK' K'
      with_reducible refine wpStill_nil ?_
      go_wp2_with fail
      refine (HBY.out 1).mono ?_
      rintro e w4 ⟨⟨a, c, zs, rfl, z1, z2, z3, z4⟩, hk⟩
      clear hk
      have HP : Hid (RrPost w B true (.returned (.slice a zs.length c)) w4) := ⟨a, c, zs, rfl, z1, z2, z3, z4⟩
      clear z1 z2 z3 z4
      go_wp2
      go_ret
      exact HP.out
    · rw [if_neg hcn] at ha2
      subst ha2
      go_enter Tryd.func17, Tryd.ntmps17
      go_wp2
      refine wp_region_still_tail 11 (by kernel_rfl) (by kernel_rfl) ?_
      simp only [List.take_succ_cons, List.take_zero, List.drop_succ_cons, List.drop_zero]
      rw [show ({ w with drawn := w.drawn + 1 } : World) = w.drewN 1 from rfl]
      iterate 9 still_step
      with_reducible refine wpStill_step (fun K' hK' => ?_)
      go_simp
      refine hK' _ ?_
      clear hK' K'
      with_reducible refine wpStill_step (fun K' hK' => ?_)
      go_simp
      refine hK' _ ?_
      clear hK' K'
      with_reducible refine wpStill_nil ?_
      go_wp2_with fail
      refine (HBY.out 1).mono ?_
      rintro e w4 ⟨⟨a, c, zs, rfl, z1, z2, z3, z4⟩, hk⟩
      clear hk
      have HP : Hid (RrPost w B true (.returned (.slice a zs.length c)) w4) := ⟨a, c, zs, rfl, z1, z2, z3, z4⟩
      clear z1 z2 z3 z4
      go_wp2
      go_ret
      exact HP.out
set_option maxHeartbeats 400000 in
theorem clear_any (E : Int) (w : World) : Calls Tryd.prog 13 #[.int .i64 E] w fun e w' => e = .returned (.int .i64 (if E = 2 then 0 else E)) ∧ w' = w := by
  by_cases h : E = 2
  · subst h
    go_enter Tryd.func13, Tryd.ntmps13
    go_wp2
    go_ret
    exact ⟨rfl, rfl⟩
  · have hb : (E == 2) = false := by simpa using h
    rw [if_neg h]
    go_enter Tryd.func13, Tryd.ntmps13
    go_wp2
    go_ret
    exact ⟨rfl, rfl⟩
end
end Go.Proofs.YtomoolipegmlcaaDoor
/- The run and the decoder, compared; a decoder beside bytes that change. -/
namespace Go.Proofs.YtomoolipegmlcaaDoor
open Go.RowKit
theorem of_cmp {lim : Nat} {l B out : List Int} {E : Int} {dn : Bool} {r : Og} (hr : Runs lim St.start l r) (h : OfE lim l out B E dn) (h0 : dn = false → E ≠ 0) :
    r.out = out ∧ r.err = (if E = 2 then 0 else E) ∧ r.ended = dn ∧ ∀ rs zs, r.rest rs → (dn = false → zs = []) → (dn = true → Bytes zs ∧ bitsL zs = B.drop (B.length % 8)) → rs = zs := by
  cases dn with
  | true =>
    obtain ⟨rfl, s1, h11, ho, hs⟩ := h.1 rfl
    obtain rfl := hr.det hs
    refine ⟨ho, rfl, by simp [Og.ended, h11], fun rs zs h1 _ h2 => ?_⟩
    obtain ⟨b1, b2⟩ := h2 rfl
    have h1 : if s1.now = 11 then Bytes rs ∧ B.drop (B.length % 8) = bitsL rs else rs = [] := h1
    rw [if_pos h11] at h1
    exact bitsL_inj h1.1 b1 (by rw [← h1.2, b2])
  | false =>
    have hE := h0 rfl
    by_cases h2 : E = 2
    · subst h2
      obtain ⟨s1, l1, hn, ho, hs⟩ := h.2.1 rfl rfl
      obtain rfl := hr.det hs
      have hne : ¬ s1.now = 11 := by omega
      refine ⟨ho, rfl, by simp [Og.ended, hne], fun rs zs h1 h3 _ => ?_⟩
      have h1 : if s1.now = 11 then Bytes rs ∧ l1 = bitsL rs else rs = [] := h1
      rw [if_neg hne] at h1
      rw [h1, h3 rfl]
    · obtain rfl := hr.det (h.2.2 rfl hE h2)
      refine ⟨rfl, by rw [if_neg h2]; rfl, rfl, fun rs zs h1 h3 _ => ?_⟩
      have h1 : rs = [] := h1
      rw [h1, h3 rfl]
/-- Nothing but block g changes. -/
structure OnlyG (g : Option Nat) (w w' : World) : Prop where
  os : w'.os = w.os
  tape : w'.tape = w.tape
  output : w'.output = w.output
  size : w.heap.size ≤ w'.heap.size
  block : ∀ k, g ≠ some k → w'.heap[k]? = w.heap[k]?
theorem OnlyG.refl (g : Option Nat) (w : World) : OnlyG g w w := ⟨rfl, rfl, rfl, Nat.le_refl _, fun _ _ => rfl⟩
theorem OnlyG.set {g : Nat} {w w' : World} (h : OnlyG (some g) w w') (i : Nat) (v : Value) : OnlyG (some g) w (w'.setCell ⟨g, i, none⟩ v) :=
  ⟨h.os, h.tape, h.output, by simp only [World.setCell, Array.size_modify]; exact h.size, fun k hk => (Below.heap_setCell _ _ _ _ (fun e => hk (by rw [e]))).trans (h.block k hk)⟩
theorem Dec.only {base : Nat} {w0 w1 w2 : World} {d lim : Nat} {L : List Int} {o o' : Ow} {r : Og} {g : Option Nat} {v : Value} {zs : List Value} (hsl : Sl w0 5 v g zs) (hne : ∀ k, g = some k → k ≠ d ∧ o.g ≠ some k ∧ o.q ≠ some k ∧ o.t ≠ some k) (hst : Step w0 w1 d o o') (hd : Dec base w1 d lim L o' r) (h12 : OnlyG g w1 w2) : Dec base w2 d lim L o' r := by
  have hlt : ∀ k, g = some k → k < w0.heap.size := fun k hk => hsl.lt hk
  refine hd.keep ⟨h12.size, fun k hk => ?_⟩ (h12.block d fun e => (hne d e).1 rfl) (fun k hk => h12.block k fun e => ?_) (fun k hk => h12.block k fun e => ?_)
  · by_cases e : g = some k
    · obtain ⟨c, e2⟩ := hsl.tag k e
      obtain ⟨a1, a2, a3, a4⟩ := hne k e
      exact .inr ⟨c, 5, (hst.block k (hlt k e) a1 (fun h => a2 h.symm) (fun h => a3 h.symm) (fun h => a4 h.symm)).trans e2, .inr (.inl rfl)⟩
    · exact .inl (h12.block k e)
  · rcases hst.g k hk with e2 | e2
    · exact (hne k e).2.1 e2
    · have := hlt k e; omega
  · rcases hst.q k hk with e2 | e2
    · exact (hne k e).2.2.1 e2
    · have := hlt k e; omega
/-- Between two pieces. -/
def IrRel (w : World) (base d lim : Nat) (bs : List Int) (A T : Nat) (bad : Bool) (wr : World) : Prop :=
  ∃ o r, A ≤ bs.length ∧ Dec base wr d lim (bitsL (bs.take A)) o r ∧ T = r.out.length ∧ bad = (r.err != 0) ∧ Below w.heap.size w wr ∧ base ≤ wr.heap.size
end Go.Proofs.YtomoolipegmlcaaDoor
