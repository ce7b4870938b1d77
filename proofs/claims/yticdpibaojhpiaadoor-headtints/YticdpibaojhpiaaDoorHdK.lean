/- The samples of the one pixel that covers nothing are read: the program's readSamples. -/
import Derived.Test.YticdpibaojhpiaaDoorHdJ
import Derived.Deep.LoopGhost
namespace Go.Proofs.YticdpibaojhpiaaDoor
open Go.RowKit
def smL (b : List Int) : List Int := (List.range (b.length / 2)).map fun i => bigN ((b.drop (2 * i)).take 2)
theorem smL_len (b : List Int) : (smL b).length = b.length / 2 := by simp [smL]
theorem smL_at (b : List Int) (t : Nat) (h : t < b.length / 2) : (smL b)[t]?.getD 0 = bigN ((b.drop (2 * t)).take 2) := by simp [smL, h]
theorem smL_snoc (b : List Int) (t : Nat) (h : t < b.length / 2) : (smL b).take (t + 1) = (smL b).take t ++ [bigN ((b.drop (2 * t)).take 2)] := by
  rw [take_snoc _ _ (by rw [smL_len]; exact h), smL_at b t h]
theorem sm_bd {b : List Int} (hb : Bytes b) (t : Nat) : 0 ≤ bigN ((b.drop (2 * t)).take 2) ∧ bigN ((b.drop (2 * t)).take 2) < 65536 := by
  have h := bigN_bound ((hb.drop (2 * t)).take 2)
  have hl : ((b.drop (2 * t)).take 2).length ≤ 2 := by simp; omega
  have : (256 : Int) ^ ((b.drop (2 * t)).take 2).length ≤ 65536 := by
    match ((b.drop (2 * t)).take 2).length, hl with
    | 0, _ => decide
    | 1, _ => decide
    | 2, _ => decide
  omega
/-- All samples are below 2^D. -/
abbrev smOk (C D : Int) (b : List Int) : Prop := (b.length : Int) = 2 * spN C ∧ ∀ v ∈ smL b, v < 2 ^ D.toNat
/-- One int more at the end of a slice of the call's own. -/
theorem wpList_pushI {w : World} {ops : Array Oper} {rest : List Oper} {o : Oper} {a : Act} {Q : Exit → Act → World → Prop} (hgd : o.guard = none) (s x : Operand)
    (ho : o.op = .call { callee := .builtin .append, args := #[s, x], argTypes := #[41, 41] })
    (wr : World) (z : Int) (hw : w = wr.alloc (.cells #[.int .i64 z] 3)) (v : Value) (g : Option Nat) (l : List Int) (hs : a.eval s = v) (hsl : Sl wr 3 v g (ivals l)) (hx : a.eval x = .slice (some ⟨wr.heap.size, 0, none⟩) 1 1)
    (hlen : l.length ≤ 2000000)
    (h : ∀ v' w' g', Sl w' 3 v' g' (ivals (l ++ [z])) → (g' = g ∨ ∃ k, g' = some k ∧ wr.heap.size + 1 ≤ k) → (wr.alloc (.cells #[.int .i64 z] 3)).grownBy w' g → wpList Tryd.prog ops Q rest (a.put o.dst v') w') : wpList Tryd.prog ops Q (o :: rest) a w := by
  subst hw
  obtain ⟨i0, hi, hz0, hz1, hz2⟩ := info_parts Tryd.info3H
  refine wpList_append_sl hgd s x _ ho 3 i0 (.int .i64 0) 8 Tryd.underlying41 hi hz0 hz1 hz2 rfl v g (ivals l) hs (hsl.same fun q hq => Below.heap_alloc wr _ q (hsl.lt hq)) ⟨wr.heap.size, 0, none⟩ 1 1 [.int .i64 z] hx rfl (cell_one_new _ _ _) (by intro y hy; simp at hy; subst hy; rfl) (by rw [ivals_len]; omega) (by rw [ivals_len]; unfold maxLen; omega) ?_
  intro v' w' g' h1 h2 h3
  exact h v' w' g' (by rw [ivals_append]; exact h1) (h2.imp id fun ⟨k, e, hk⟩ => ⟨k, e, by simpa using hk⟩) h3
theorem Sl.neCur {w : World} {v : Value} {g : Option Nat} {xs : List Value} (h : Sl w 3 v g xs) {c U : Nat} {zs : List Int} {er : Int} (hc : Cur w c U zs er) : ∀ k, g = some k → k ≠ c := by
  intro k hk e
  obtain ⟨a, cap, hh, _⟩ := hc
  rcases h with ⟨_, e2, _⟩ | ⟨b, off, cap', cur, _, e2, hh2, _⟩
  · rw [e2] at hk; cases hk
  · rw [e2] at hk; cases hk
    subst e
    rw [hh] at hh2
    simp at hh2
/-- The state between two samples. -/
structure SmI (w w0 wr : World) (W H C D : Int) (L : Bool) (c U : Nat) (b : List Int) (t : Nat) (o : Value) (g : Option Nat) : Prop where
  q : Qh w W H C D L w0
  ri : RI w0 wr c U (b.drop (2 * t))
  sl : Sl wr 3 o g (ivals ((smL b).take t))
  gu : ∀ k, g = some k → U ≤ k
theorem SmI.qh {w w0 wr : World} {W H C D : Int} {L : Bool} {c U : Nat} {b : List Int} {t : Nat} {o : Value} {g : Option Nat} (h : SmI w w0 wr W H C D L c U b t o g) : Qh w W H C D L wr := h.q.old h.ri.be
theorem SmI.next {w w0 wr w1 w7 : World} {W H C D : Int} {L : Bool} {c U : Nat} {b : List Int} {t : Nat} {o : Value} {g : Option Nat} (h : SmI w w0 wr W H C D L c U b t o g) (ht : t < b.length / 2)
    (h1 : RI w0 w1 c U ((b.drop (2 * t)).drop 2)) {v7 : Value} {g7 : Option Nat} (hs7 : Sl w7 3 v7 g7 (ivals ((smL b).take t ++ [bigN ((b.drop (2 * t)).take 2)]))) (hg7 : g7 = g ∨ ∃ k, g7 = some k ∧ w1.heap.size + 1 ≤ k)
    (hgr7 : (w1.alloc (.cells #[.int .i64 (bigN ((b.drop (2 * t)).take 2))] 3)).grownBy w7 g) : SmI w w0 w7 W H C D L c U b (t + 1) v7 g7 := by
  have hA := h1.alloc (.cells #[.int .i64 (bigN ((b.drop (2 * t)).take 2))] 3)
  have hsz := h1.us
  have hgu : ∀ k, g = some k → U ≤ k := h.gu
  have hbe : Below w0.heap.size w0 w7 := hA.be.grown hgr7 hA.be.size (fun k hk => by have := hgu k hk; have := h1.ge; have := h1.cu; omega)
  have hcu : Cur w7 c U ((b.drop (2 * t)).drop 2) 0 := by
    cases hg : g with
    | none =>
      rw [hg] at hgr7
      exact hA.cur.below ⟨hgr7.os, hgr7.tape, hgr7.output, hgr7.size, fun k hk => hgr7.block k hk (by simp)⟩
    | some d =>
      rw [hg] at hgr7
      exact hA.cur.grown hgr7 (by have := hgu d hg; have := h1.cu; omega) (hgu d hg)
  refine ⟨h.q, ⟨?_, hbe, h1.ge, h1.cu, by have := hgr7.size; simp at this; omega⟩, by rw [smL_snoc b t ht]; exact hs7, fun k hk => ?_⟩
  · rw [List.drop_drop, show 2 * t + 2 = 2 * (t + 1) by omega] at hcu
    exact hcu
  · rcases hg7 with e | ⟨j, e, hj⟩
    · exact hgu k (by rw [← e, hk])
    · rw [e] at hk; cases hk; omega
theorem shl_D {D : Int} (h : 1 ≤ D ∧ D ≤ 16) : wrap64 (2 ^ D.toNat) = 2 ^ D.toNat := by
  obtain ⟨k, rfl⟩ := Int.eq_ofNat_of_zero_le (show 0 ≤ D by omega)
  have hk : (2 : Nat) ^ k ≤ 2 ^ 16 := Nat.pow_le_pow_right (by omega) (by omega)
  have e : (2 : Int) ^ ((k : Int)).toNat = ((2 ^ k : Nat) : Int) := by rw [Int.toNat_natCast, Int.natCast_pow]; rfl
  rw [e]
  unfold wrap64
  generalize (2 : Nat) ^ k = q at *
  omega
set_option maxHeartbeats 3200000 in
theorem rsamp_any (W H C D : Int) (L : Bool) (a : Option Addr) (n cap : Nat) (b : List Int) (w : World) (ht : Tab w) (hn : b.length = n) (hs : n ≤ 2000000) (hb : Bytes b) (hnil : a = none → cap = 0) (hr : Row w a b) (hC : 0 ≤ C ∧ C ≤ 6) (hD : 1 ≤ D ∧ D ≤ 16) (R : List Int) (er : Int) (hyes : smOk C D b → R = smL b ∧ er = 0) (hno : ¬ smOk C D b → R = [] ∧ er = 12) :
    Calls Tryd.prog 38 #[HdV W H C D L, .slice a n cap] w fun e w' => R1Post w R er e w' := by
  have HYN : Hid ((smOk C D b → R = smL b ∧ er = 0) ∧ (¬ smOk C D b → R = [] ∧ er = 12)) := ⟨hyes, hno⟩
  clear hyes hno
  have HB0 : Hid (Qh w W H C D L _) := Qh.box w W H C D L
  have CS := samples_any C _ (ht.old HB0.out.1)
  have hsp : 0 ≤ spN C ∧ spN C ≤ 4 := by
    have : ∀ c : Nat, c ≤ 6 → 0 ≤ spN (c : Int) ∧ spN (c : Int) ≤ 4 := by decide
    obtain ⟨k, rfl⟩ := Int.eq_ofNat_of_zero_le hC.1
    exact this k (by omega)
  have HK : Hid ((smOk C D b ↔ ((n : Int) = 2 * spN C ∧ ∀ v ∈ smL b, v < 2 ^ D.toNat)) ∧ b.length = n ∧ Bytes b) := ⟨by unfold smOk; rw [hn], hn, hb⟩
  have CN := new_any a n cap b _ hn hnil (by omega) (hr.old HB0.out.1)
  clear ht hn hb hnil hr
  generalize spN C = N at *
  unfold HdV
  by_cases hl : (n : Int) = 2 * N
  · have hlb : ((n : Int) != 2 * N) = false := by simp [hl]
    obtain ⟨w0, hw0⟩ : ∃ w0, w0 = w.alloc (.cells #[.int .i64 W, .int .i64 H, .int .i64 C, .int .i64 D, .bool L] 23) := ⟨_, rfl⟩
    rw [← hw0] at HB0 CS CN
    go_enter Tryd.func38, Tryd.ntmps38
    go_wp2_with fail
    rw [← hw0]
    refine CS.mono ?_
    clear CS hw0
    rintro e w1 ⟨rfl, rfl⟩
    go_wp2_with fail
    refine CN.mono ?_
    clear CN
    rintro e w2 ⟨c, rfl, h1, h2, a1, cap1, h3, h4, h5, h6, -⟩
    have HI : Hid (SmI w w1 w2 W H C D L c w2.heap.size b 0 (.slice none 0 0) none) := ⟨HB0.out, RI.start h1 h2 h3 h4 h5 h6, Sl.nil _ _, (by intro k hk; cases hk)⟩
    generalize w2.heap.size = U at *
    clear h1 h2 h3 h4 h5 h6
    obtain ⟨M, hM⟩ : ∃ M, n = 2 * M := ⟨N.toNat, by omega⟩
    have HM : Hid (n = 2 * M ∧ b.length = 2 * M ∧ b.length / 2 = M) := ⟨hM, by rw [HK.out.2.1, hM], by rw [HK.out.2.1, hM]; omega⟩
    have hMs : M ≤ 8 := by omega
    clear hM hlb
    obtain ⟨P, hP⟩ : ∃ P : Int, P = 2 ^ D.toNat := ⟨_, rfl⟩
    have HPd : Hid (P = 2 ^ D.toNat) := hP
    have hsh : wrap64 (2 ^ D.toNat) = P := by rw [hP]; exact shl_D hD
    clear hP
    go_wp2_with fail
    go_loopg [7, 8] M (fun fu o _ wr => ∃ (t : Nat) (g : Option Nat), fu + t = M ∧ Hid (SmI w w1 wr W H C D L c U b t o g) ∧ Hid (∀ v ∈ (smL b).take t, v < 2 ^ D.toNat))
    case atStart => exact ⟨0, none, by omega, HI.out, (by intro v hv; simp at hv)⟩
    case round =>
      clear HI
      obtain ⟨t, g, hfu, HI, HV⟩ := hrel
      have CL := left_any c U (b.drop (2 * t)) 0 wr HI.out.ri.cur
      have hln : (b.drop (2 * t)).length = 2 * (M - t) := by rw [List.length_drop, HM.out.2.1]; omega
      rw [hln] at CL
      obtain ⟨ao, co, hv, hl1, hl2, hl3⟩ := HI.out.sl.shape
      rw [ivals_len] at hv
      have hst : ((smL b).take t).length = t := by rw [List.length_take, smL_len, HM.out.2.2]; omega
      rw [hst] at hv
      subst hv
      have HLn : Hid ((b.drop (2 * t)).length = 2 * (M - t) ∧ ((smL b).take t).length = t) := ⟨hln, hst⟩
      clear hln hst hl1 hl2 hl3
      by_cases hlt : t < M
      · have hbs := sm_bd HK.out.2.2 t
        have CB := HI.out.ri.big2 (HK.out.2.2.drop _) (by rw [HLn.out.1]; omega)
        have hp1 : (0 : Int) < ((2 * (M - t) : Nat) : Int) := by omega
        go_wp2_with fail
        refine CL.mono ?_
        clear CL
        rintro e w3 ⟨rfl, rfl⟩
        go_wp2_with fail
        refine CB.mono ?_
        clear CB
        rintro e w4 ⟨rfl, h1, h2⟩
        have HN4 : Hid (RI w1 w4 c U ((b.drop (2 * t)).drop 2) ∧ Sl w4 3 (.slice ao t co) g (ivals ((smL b).take t))) := ⟨h1, HI.out.sl.same fun k hk => h2.block k (HI.out.sl.lt hk) (fun e => HI.out.sl.neCur HI.out.ri.cur k hk (by simpa using e))⟩
        have HQ4 : Hid (Qh w W H C D L w4) := HB0.out.old h1.be
        obtain ⟨c0, c1, c2, c3, c4⟩ := HQ4.out.five
        have HT4 : Hid (t < b.length / 2) := by show _ < _; rw [HM.out.2.2]; exact hlt
        clear h1 h2
        generalize hZ : bigN ((b.drop (2 * t)).take 2) = Z at *
        have HZ : Hid (bigN ((b.drop (2 * t)).take 2) = Z) := hZ
        clear hZ
        by_cases hZP : Z < P
        · have hZQ : ¬ P ≤ Z := by omega
          have HS5 : Hid (Sl w4 3 (.slice ao t co) g (ivals ((smL b).take t))) := HN4.out.2
          go_wp2_with (at_builtin; refine wpList_pushI rfl _ _ rfl w4 Z rfl (.slice ao t co) g ((smL b).take t) rfl HS5.out rfl (by rw [HLn.out.2]; omega) ?_)
          intro v7 w7 g7 hs7 hg7 hgr7
          have HF : Hid (SmI w w1 w7 W H C D L c U b (t + 1) v7 g7) := HI.out.next HT4.out HN4.out.1 (by rw [HZ.out]; exact hs7) hg7 (by rw [HZ.out]; exact hgr7)
          have HV2 : Hid (∀ v ∈ (smL b).take (t + 1), v < 2 ^ D.toNat) := fun v hv => by
            rw [smL_snoc b t HT4.out, HZ.out] at hv
            rcases List.mem_append.1 hv with h | h
            · exact HV.out v h
            · simp only [List.mem_singleton] at h
              rw [h, ← HPd.out]; exact hZP
          clear hs7 hg7 hgr7 HN4 HI HV HS5
          go_wp2
          go_roundg (M - (t + 1))
          case rel => exact ⟨t + 1, g7, by omega, HF.out, HV2.out⟩
          case measure => omega
        · have hZQ : P ≤ Z := by omega
          have HF : Hid (R1Post w R er (.returned (.tuple #[.slice none 0 0, .int .i64 12])) w4) := by
            have hk : ¬ smOk C D b := fun h => by
              have h1 := h.2 Z (by
                have h2 : Z ∈ (smL b).take (t + 1) := by rw [smL_snoc b t HT4.out, HZ.out]; simp
                exact List.mem_of_mem_take h2)
              rw [← HPd.out] at h1
              exact hZP h1
            rw [(HYN.out.2 hk).1, (HYN.out.2 hk).2]
            exact ⟨none, 0, rfl, .inl rfl, HQ4.out.1⟩
          clear HN4 HI HV
          go_wp2
          go_ret2
          exact HF.out
      · obtain rfl : t = M := by omega
        have HF : Hid (R1Post w R er (.returned (.tuple #[.slice ao t co, .int .i64 0])) wr) := by
          have hall : (smL b).take t = smL b := List.take_of_length_le (by rw [smL_len, HM.out.2.2]; exact Nat.le_refl _)
          have hk : smOk C D b := HK.out.1.2 ⟨hl, fun v hv => HV.out v (by rw [hall]; exact hv)⟩
          rw [(HYN.out.1 hk).1, (HYN.out.1 hk).2]
          have hs := HI.out.sl
          have hln := HLn.out.2
          rw [hall] at hs hln
          exact ⟨ao, co, by rw [hln], hs.irow rfl, HI.out.qh.1⟩
        have hz0 : ((2 * (t - t) : Nat) : Int) = 0 := by omega
        go_wp2_with fail
        refine CL.mono ?_
        clear CL
        rintro e w3 ⟨rfl, rfl⟩
        go_wp2
        go_ret2
        exact HF.out
  · have HF : Hid (R1Post w R er (.returned (.tuple #[.slice none 0 0, .int .i64 12])) (w.alloc (.cells #[.int .i64 W, .int .i64 H, .int .i64 C, .int .i64 D, .bool L] 23))) := by
      have hk : ¬ smOk C D b := fun h => hl (HK.out.1.1 h).1
      rw [(HYN.out.2 hk).1, (HYN.out.2 hk).2]
      exact ⟨none, 0, rfl, .inl rfl, HB0.out.1⟩
    have hlb : ((n : Int) != 2 * N) = true := by simpa using hl
    have hlc : ((n : Int) == 2 * N) = false := by simpa using hl
    go_enter Tryd.func38, Tryd.ntmps38
    go_wp2_with fail
    refine CS.mono ?_
    clear CS
    rintro e w1 ⟨rfl, rfl⟩
    go_wp2
    go_ret2
    exact HF.out
end Go.Proofs.YticdpibaojhpiaaDoor
