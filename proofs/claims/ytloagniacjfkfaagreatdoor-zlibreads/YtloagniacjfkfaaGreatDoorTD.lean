/- Joined: Ra Rb Rc. -/
import Derived.Test.YtloagniacjfkfaaGreatDoorTC
import Derived.Test.YtloagniacjfkfaaGreatDoorTA
import Derived.Test.YtloagniacjfkfaaGreatDoorQP
import Derived.Test.YtloagniacjfkfaaGreatDoorQG
import Derived.Test.YtloagniacjfkfaaGreatDoorQL
import Derived.Test.YtloagniacjfkfaaGreatDoorQV
/- The document's run in memory: its bits, what it tells, its error. -/
namespace Go.Proofs.YtloagniacjfkfaaGreatDoor
open Go.RowKit
/-- The run at block r: bits B in block gb, told bytes in block go, kinds in block gk. -/
def RunC (w : World) (r : Nat) (vb vo vk : Value) (all lim E : Int) (dn : Bool) : Prop :=
  w.heap[r]? = some (.cells #[vb, .int .i64 all, vo, .int .i64 lim, .int .i64 E, .bool dn, vk] 59 (0, 0))
/-- The kinds lie apart from the bits, and are few. -/
def KsOk (gk gb : Option Nat) (ks B : List Int) : Prop := (gk = none ∨ gk ≠ gb) ∧ ks.length + B.length ≤ 200000
theorem KsOk.drop {gk gb : Option Nat} {ks B : List Int} (h : KsOk gk gb ks B) (n : Nat) : KsOk gk gb ks (B.drop n) := ⟨h.1, by rw [List.length_drop]; have := h.2; omega⟩
def RunAt (w : World) (r : Nat) (gb go gk : Option Nat) (B out : List Int) (lim E : Int) (dn : Bool) : Prop :=
  ∃ vb vo vk all ks, RunC w r vb vo vk all lim E dn ∧ Sl w 3 vb gb (ivals B) ∧ Sl w 5 vo go (vals out) ∧ Sl w 3 vk gk (ivals ks) ∧ KsOk gk gb ks B
section
variable {w : World} {r : Nat} {vb vo vk : Value} {all lim E : Int} {dn : Bool}
theorem RunC.cells (h : RunC w r vb vo vk all lim E dn) : w.cell? ⟨r, 0, none⟩ = some vb ∧ w.cell? ⟨r, 2, none⟩ = some vo ∧ w.cell? ⟨r, 3, none⟩ = some (.int .i64 lim) ∧ w.cell? ⟨r, 4, none⟩ = some (.int .i64 E) ∧ w.cell? ⟨r, 5, none⟩ = some (.bool dn) ∧ w.cell? ⟨r, 6, none⟩ = some vk ∧ ∀ j, w.frozen? ⟨r, j, none⟩ = false := by
  unfold RunC at h
  refine ⟨?_, ?_, ?_, ?_, ?_, ?_, fun j => ?_⟩ <;> simp [World.cell?, World.frozen?, h]
theorem RunC.set0 (h : RunC w r vb vo vk all lim E dn) (v : Value) : RunC (w.setCell ⟨r, 0, none⟩ v) r v vo vk all lim E dn := by
  unfold RunC at h ⊢
  rw [heap_setCell_same w r 0 _ _ _ h]
  rfl
theorem RunC.set2 (h : RunC w r vb vo vk all lim E dn) (v : Value) : RunC (w.setCell ⟨r, 2, none⟩ v) r vb v vk all lim E dn := by
  unfold RunC at h ⊢
  rw [heap_setCell_same w r 2 _ _ _ h]
  rfl
theorem RunC.set4 (h : RunC w r vb vo vk all lim E dn) (e : Int) : RunC (w.setCell ⟨r, 4, none⟩ (.int .i64 e)) r vb vo vk all lim e dn := by
  unfold RunC at h ⊢
  rw [heap_setCell_same w r 4 _ _ _ h]
  rfl
theorem RunC.same {w' : World} (h : RunC w r vb vo vk all lim E dn) (hs : w'.heap[r]? = w.heap[r]?) : RunC w' r vb vo vk all lim E dn := hs.trans h
theorem RunC.lt (h : RunC w r vb vo vk all lim E dn) : r < w.heap.size := lt_of_block h
theorem RunC.ne {e : TypeId} {v : Value} {g : Option Nat} {xs : List Value} (h : RunC w r vb vo vk all lim E dn) (hs : Sl w e v g xs) (he : e ≠ 59) : ∀ k, g = some k → k ≠ r := by
  rintro k hk rfl
  obtain ⟨c, e2⟩ := hs.tag k hk
  unfold RunC at h
  rw [h] at e2
  simp only [Option.some.injEq, Obj.cells.injEq] at e2
  exact he e2.2.1.symm
end
theorem Sl.ne {w : World} {e e' : TypeId} {v v' : Value} {g g' : Option Nat} {xs xs' : List Value} (h : Sl w e v g xs) (h' : Sl w e' v' g' xs') (he : e ≠ e') : ∀ k, g = some k → g' ≠ some k := by
  intro k hk hk'
  obtain ⟨c, e1⟩ := h.tag k hk
  obtain ⟨c', e2⟩ := h'.tag k hk'
  rw [e1] at e2
  simp only [Option.some.injEq, Obj.cells.injEq] at e2
  exact he e2.2.1
section
variable {w : World} {r : Nat} {gb go gk : Option Nat} {B out : List Int} {lim E : Int} {dn : Bool}
theorem RunAt.lt (h : RunAt w r gb go gk B out lim E dn) : r < w.heap.size := by obtain ⟨vb, vo, vk, all, ks, h1, _⟩ := h; exact h1.lt
theorem RunAt.same {w' : World} (h : RunAt w r gb go gk B out lim E dn) (hr : w'.heap[r]? = w.heap[r]?) (hb : ∀ k, gb = some k → w'.heap[k]? = w.heap[k]?) (ho : ∀ k, go = some k → w'.heap[k]? = w.heap[k]?) (hk : ∀ k, gk = some k → w'.heap[k]? = w.heap[k]?) : RunAt w' r gb go gk B out lim E dn := by
  obtain ⟨vb, vo, vk, all, ks, h1, h2, h3, h4, h5⟩ := h
  exact ⟨vb, vo, vk, all, ks, h1.same hr, h2.same hb, h3.same ho, h4.same hk, h5⟩
theorem RunAt.old {w' : World} (h : RunAt w r gb go gk B out lim E dn) (hb : Below w.heap.size w w') : RunAt w' r gb go gk B out lim E dn := by
  obtain ⟨vb, vo, vk, all, ks, h1, h2, h3, h4, h5⟩ := h
  exact ⟨vb, vo, vk, all, ks, h1.same (hb.block _ h1.lt), h2.same fun k hk => hb.block k (h2.lt hk), h3.same fun k hk => hb.block k (h3.lt hk), h4.same fun k hk => hb.block k (h4.lt hk), h5⟩
theorem RunAt.setE (h : RunAt w r gb go gk B out lim E dn) (e : Int) : RunAt (w.setCell ⟨r, 4, none⟩ (.int .i64 e)) r gb go gk B out lim e dn := by
  obtain ⟨vb, vo, vk, all, ks, h1, h2, h3, h4, h5⟩ := h
  exact ⟨vb, vo, vk, all, ks, h1.set4 e, h2.same fun k hk => Below.heap_setCell _ _ _ _ (h1.ne h2 (by decide) k hk), h3.same fun k hk => Below.heap_setCell _ _ _ _ (h1.ne h3 (by decide) k hk), h4.same fun k hk => Below.heap_setCell _ _ _ _ (h1.ne h4 (by decide) k hk), h5⟩
theorem RunAt.cE (h : RunAt w r gb go gk B out lim E dn) : w.cell? ⟨r, 4, none⟩ = some (.int .i64 E) := by obtain ⟨vb, vo, vk, all, ks, h1, _⟩ := h; exact h1.cells.2.2.2.1
/-- fail: an error, if something holds. -/
def flE (E : Int) (yes : Bool) (er : Int) : Int := if E = 0 ∧ yes = true then er else E
def FlPost (w : World) (r : Nat) (gb go gk : Option Nat) (B out : List Int) (lim E : Int) (dn : Bool) (e : Ending) (w' : World) : Prop :=
  e = .returned (.tuple #[]) ∧ RunAt w' r gb go gk B out lim E dn ∧ Fr w w' r none ∧ ∀ j, j ≠ 4 → w'.cell? ⟨r, j, none⟩ = w.cell? ⟨r, j, none⟩
set_option maxHeartbeats 800000 in
set_option maxRecDepth 20000 in
theorem rfail_any (yes : Bool) (er : Int) (h : RunAt w r gb go gk B out lim E dn) : Calls Tryz.prog 70 #[.pointer (some ⟨r, 0, none⟩), .bool yes, .int .i64 er] w fun e w' => FlPost w r gb go gk B out lim (flE E yes er) dn e w' := by
  have HR : Hid (RunAt w r gb go gk B out lim E dn) := h
  have k4 := h.cE
  obtain ⟨vb, vo, vk, all, ks, h1, _⟩ := h
  have fz := h1.cells.2.2.2.2.2.2
  clear h1
  by_cases hE : E = 0
  · subst hE
    cases yes with
    | true =>
      go_enter Tryz.func70, Tryz.ntmps70
      go_wp2
      go_end0
      refine ⟨rfl, HR.out.setE er, (Fr.refl _ _ _).snoc _ _, fun j hj => ?_⟩
      apply World.cell?_setCell_other
      intro e
      cases e
      exact hj rfl
    | false =>
      go_enter Tryz.func70, Tryz.ntmps70
      go_wp2
      go_end0
      exact ⟨rfl, HR.out, Fr.refl _ _ _, fun _ _ => rfl⟩
  · have hb : (E == 0) = false := by simpa using hE
    have hf : flE E yes er = E := by unfold flE; rw [if_neg (fun h => hE h.1)]
    rw [hf]
    go_enter Tryz.func70, Tryz.ntmps70
    go_wp2
    go_end0
    exact ⟨rfl, HR.out, Fr.refl _ _ _, fun _ _ => rfl⟩
end
end Go.Proofs.YtloagniacjfkfaaGreatDoor
/- The document's run: bits taken, a byte told, a symbol read. -/
namespace Go.Proofs.YtloagniacjfkfaaGreatDoor
open Go.RowKit
theorem Sl.cutN {w : World} {e : TypeId} {a : Option Addr} {n cap : Nat} {g : Option Nat} {xs : List Value} (h : Sl w e (.slice a n cap) g xs) (k : Nat) (hk : k ≤ xs.length) : Sl w e (.slice (if cap = k then a else Option.map (fun x => x.add k) a) (xs.length - k) (cap - k)) g (xs.drop k) := by
  have h0 := h
  rcases h with ⟨h1, h2, h3⟩ | ⟨b, off, cap', cur, h1, h2, h3, h4, h5, h6, h7⟩
  · simp only [Value.slice.injEq] at h1
    obtain ⟨rfl, rfl, rfl⟩ := h1
    subst h2 h3
    obtain rfl : k = 0 := by simpa using hk
    exact Sl.nil _ _
  · simp only [Value.slice.injEq] at h1
    obtain ⟨rfl, rfl, rfl⟩ := h1
    by_cases hc : cap = k
    · rw [if_pos hc]
      exact h0.drop k hk off _ rfl (.inr ⟨hc.symm, rfl⟩)
    · rw [if_neg hc]
      have := h0.drop k hk (off + k) _ rfl (.inl ⟨by omega, rfl⟩)
      simpa [Addr.add_lit] using this
section
variable {w : World} {r : Nat} {gb go gk : Option Nat} {B out : List Int} {lim E : Int} {dn : Bool}
def tkR (E : Int) (B : List Int) (n : Nat) : Int × List Int × Int := if E ≠ 0 then (0, B, E) else if B.length < n then (0, B, 2) else ((bV B 0 n : Int), B.drop n, 0)
def TkPost (w : World) (r : Nat) (gb go gk : Option Nat) (out : List Int) (lim : Int) (dn : Bool) (o : Int × List Int × Int) (e : Ending) (w' : World) : Prop :=
  e = .returned (.int .i64 o.1) ∧ RunAt w' r gb go gk o.2.1 out lim o.2.2 dn ∧ Fr w w' r none
set_option maxHeartbeats 1600000 in
set_option maxRecDepth 20000 in
theorem rtake6 (n : Nat) (hn : n ≤ 32) (hB : Bit B) (h : RunAt w r gb go gk B out lim E dn) : Calls Tryz.prog 46 #[.pointer (some ⟨r, 0, none⟩), .int .i64 n] w fun e w' => TkPost w r gb go gk out lim dn (tkR E B n) e w' ∧ w'.cell? ⟨r, 6, none⟩ = w.cell? ⟨r, 6, none⟩ := by
  have HR : Hid (RunAt w r gb go gk B out lim E dn) := h
  obtain ⟨vb, vo, vk, all, ks, h1, h2, h3, h4, h5⟩ := h
  obtain ⟨k0, k2, k3, k4, k5, k6, fz⟩ := h1.cells
  by_cases hE : E = 0
  · subst hE
    obtain ⟨ab, cb, hv, hle, hcm, hnn⟩ := h2.shape
    rw [ivals_len] at hv hle
    subst hv
    by_cases hlt : B.length < n
    · have hlti : (B.length : Int) < (n : Int) := by omega
      have e : tkR 0 B n = (0, B, 2) := by unfold tkR; rw [if_neg (by decide), if_pos hlt]
      rw [e]
      clear h1 h2 h3 h4 h5
      go_enter Tryz.func46, Tryz.ntmps46
      go_wp2
      go_ret
      exact ⟨⟨rfl, HR.out.setE 2, (Fr.refl _ _ _).snoc _ _⟩, by apply World.cell?_setCell_other; intro e; cases e⟩
    · have hge : n ≤ B.length := by omega
      have e : tkR 0 B n = ((bV B 0 n : Int), B.drop n, 0) := by unfold tkR; rw [if_neg (by decide), if_neg hlt]
      rw [e]
      have HNu := number_any ab n cb (B.take n) w (by rw [List.length_take]; omega) hn (hB.take n) (by
        have := h2.irow rfl
        rcases this with h | ⟨b, off, rfl, hc⟩
        · exact .inl (by rw [h]; simp)
        · refine .inr ⟨b, off, rfl, fun i hi => ?_⟩
          rw [List.length_take] at hi
          have hi' : i < n := by omega
          rw [hc i (by omega)]
          simp [hi'])
      have hbv : binN (B.take n) = (bV B 0 n : Int) := by rw [bV_int hB, List.drop_zero]
      rw [hbv] at HNu
      have HF : Hid (RunAt (w.setCell ⟨r, 0, none⟩ (.slice (if cb = n then ab else Option.map (fun x => x.add n) ab) (B.length - n) (cb - n))) r gb go gk (B.drop n) out lim 0 dn) := by
        have hc := h2.cutN n (by rw [ivals_len]; exact hge)
        rw [ivals_len] at hc
        have hd : (ivals B).drop n = ivals (B.drop n) := by simp [ivals]
        rw [hd] at hc
        exact ⟨_, vo, vk, all, ks, h1.set0 _, hc.same fun k hk => Below.heap_setCell _ _ _ _ (h1.ne h2 (by decide) k hk), h3.same fun k hk => Below.heap_setCell _ _ _ _ (h1.ne h3 (by decide) k hk), h4.same fun k hk => Below.heap_setCell _ _ _ _ (h1.ne h4 (by decide) k hk), h5.drop n⟩
      have hnc : n ≤ cb := by omega
      clear h1 h2 h3 h4 h5 HR
      generalize (bV B 0 n : Int) = X at *
      generalize hBL : B.length = M at *
      go_enter Tryz.func46, Tryz.ntmps46
      go_wp2_with fail
      refine HNu.mono ?_
      rintro e' w2 ⟨rfl, hw⟩
      rw [hw]
      by_cases hc : cb = n
      · rw [if_pos hc, show cb - n = 0 by omega] at HF
        go_wp2
        go_ret
        exact ⟨⟨rfl, HF.out, (Fr.refl _ _ _).snoc _ _⟩, by apply World.cell?_setCell_other; intro e; cases e⟩
      · rw [if_neg hc] at HF
        go_wp2
        go_ret
        exact ⟨⟨rfl, HF.out, (Fr.refl _ _ _).snoc _ _⟩, by apply World.cell?_setCell_other; intro e; cases e⟩
  · have hb : (E == 0) = false := by simpa using hE
    have e : tkR E B n = (0, B, E) := by unfold tkR; rw [if_pos hE]
    rw [e]
    clear h1 h2 h3 h4 h5
    go_enter Tryz.func46, Tryz.ntmps46
    go_wp2
    go_ret
    exact ⟨⟨rfl, HR.out, Fr.refl _ _ _⟩, rfl⟩
theorem rtake_any (n : Nat) (hn : n ≤ 32) (hB : Bit B) (h : RunAt w r gb go gk B out lim E dn) : Calls Tryz.prog 46 #[.pointer (some ⟨r, 0, none⟩), .int .i64 n] w fun e w' => TkPost w r gb go gk out lim dn (tkR E B n) e w' := (rtake6 n hn hB h).mono fun _ _ h => h.1
/-- A symbol: by the words of a code. -/
def nxR (E : Int) (ns : List Nat) (B : List Int) : Int × List Int × Int := if E ≠ 0 then (0, B, E) else ((nxL ns B).1, B.drop (nxL ns B).2.2, (nxL ns B).2.1)
theorem nxL_ref {ns : List Nat} (hc : Cd ns) (hB : Bit B) : refN (wds ns) B = ((nxL ns B).1, (nxL ns B).2.2, (nxL ns B).2.1) := by
  have h := nxt_ref (ns := ns) (L := B) (nb := fun i => (B[i]?.getD 0).toNat) hc (fun i => by have := hB.at i; omega) (fun i hi => by have := hB.at i; omega) 15 0 rfl (Nat.zero_le _) (fun s h1 h2 => by omega) (.inl rfl)
  unfold nxL
  rw [h]
set_option maxHeartbeats 1600000 in
set_option maxRecDepth 20000 in
theorem rnext_any (ns : List Nat) (base : Nat) (v : Value) (xs : List Pv) (hc : Cd ns) (hq : QRow w base v xs) (hps : PS w xs (wds ns)) (hB : Bit B) (hl : B.length ≤ 1000000) (h : RunAt w r gb go gk B out lim E dn) : Calls Tryz.prog 73 #[.pointer (some ⟨r, 0, none⟩), v] w fun e w' => TkPost w r gb go gk out lim dn (nxR E ns B) e w' := by
  have HR : Hid (RunAt w r gb go gk B out lim E dn) := h
  obtain ⟨vb, vo, vk, all, ks, h1, h2, h3, h4, h5⟩ := h
  obtain ⟨k0, k2, k3, k4, k5, k6, fz⟩ := h1.cells
  by_cases hE : E = 0
  · subst hE
    obtain ⟨ab, cb, hv, hle, hcm, hnn⟩ := h2.shape
    rw [ivals_len] at hv hle
    subst hv
    obtain ⟨ad, cp, hv2⟩ := hq.shape
    subst hv2
    have HN := refNext_any base ad cp xs (wds ns) ab B.length cb B w xs.length rfl hq hps rfl (h2.irow rfl) hl (by
      have e1 := All2.len hps
      have e2 := hc.wds_len
      have e3 : (ns.countP fun k => decide (0 < k)) ≤ ns.length := List.countP_le_length
      have := hc.few
      omega) (fun p hp => by
      obtain ⟨s, hs⟩ := hc.wds.1 hp
      rw [hs.2]
      simp only [mb_len]
      have := hc.le s
      omega)
    rw [nxL_ref hc hB] at HN
    have e : nxR 0 ns B = ((nxL ns B).1, B.drop (nxL ns B).2.2, (nxL ns B).2.1) := by unfold nxR; rw [if_neg (by decide)]
    rw [e]
    have hnl := nxL_len ns B
    obtain ⟨S, hS⟩ : ∃ S, (nxL ns B).1 = S := ⟨_, rfl⟩
    obtain ⟨n, hn⟩ : ∃ n, (nxL ns B).2.2 = n := ⟨_, rfl⟩
    obtain ⟨er, her⟩ : ∃ er, (nxL ns B).2.1 = er := ⟨_, rfl⟩
    rw [hS, hn, her] at HN ⊢
    rw [hn] at hnl
    clear hS hn her e
    have HD : Hid (RunC w r (.slice ab B.length cb) vo vk all lim 0 dn ∧ Sl w 3 (.slice ab B.length cb) gb (ivals B) ∧ Sl w 5 vo go (vals out) ∧ Sl w 3 vk gk (ivals ks) ∧ KsOk gk gb ks B) := ⟨h1, h2, h3, h4, h5⟩
    have HF : Hid (∀ w2, Below w.heap.size w w2 → RunAt ((w2.setCell ⟨r, 4, none⟩ (.int .i64 er)).setCell ⟨r, 0, none⟩ (.slice (if cb = n then ab else Option.map (fun x => x.add n) ab) (B.length - n) (cb - n))) r gb go gk (B.drop n) out lim er dn) := by
      intro w2 hb
      obtain ⟨d1, d2, d3, d4, d5⟩ := HD.out
      have hcu := d2.cutN n (by rw [ivals_len]; exact hnl)
      rw [ivals_len] at hcu
      have hd : (ivals B).drop n = ivals (B.drop n) := by simp [ivals]
      rw [hd] at hcu
      have n2 := d1.ne d2 (by decide)
      have n3 := d1.ne d3 (by decide)
      have n4 := d1.ne d4 (by decide)
      have hs : ∀ k, k < w.heap.size → k ≠ r → ((w2.setCell ⟨r, 4, none⟩ (.int .i64 er)).setCell ⟨r, 0, none⟩ (.slice (if cb = n then ab else Option.map (fun x => x.add n) ab) (B.length - n) (cb - n))).heap[k]? = w.heap[k]? := fun k hk hne => by
        rw [Below.heap_setCell _ _ _ _ hne, Below.heap_setCell _ _ _ _ hne]
        exact hb.block k hk
      exact ⟨_, vo, vk, all, ks, ((d1.same (hb.block r d1.lt)).set4 er).set0 _, hcu.same fun k hk => hs k (d2.lt hk) (n2 k hk), d3.same fun k hk => hs k (d3.lt hk) (n3 k hk), d4.same fun k hk => hs k (d4.lt hk) (n4 k hk), d5.drop n⟩
    have hnc : n ≤ cb := by omega
    have HC : Hid (∀ w2, Below w.heap.size w w2 → RunC w2 r (.slice ab B.length cb) vo vk all lim 0 dn) := fun w2 hb => HD.out.1.same (hb.block r HD.out.1.lt)
    clear h1 h2 h3 h4 h5 HR hq hps
    generalize hBL : B.length = M at *
    go_enter Tryz.func73, Tryz.ntmps73
    go_wp2_with fail
    refine HN.mono ?_
    rintro e' w2 ⟨rfl, b2⟩
    obtain ⟨q0, q2, q3, q4, q5, q6, qf⟩ := (HC.out w2 b2).cells
    have HF2 := HF.out w2 b2
    have HFr : Hid (Fr w w2 r none) := Fr.of_heap b2
    have HFH : Hid _ := HF2
    clear HF2 HF HC HD HN k0 k2 k3 k4 k5 k6 fz b2
    by_cases hc2 : cb = n
    · rw [if_pos hc2, show cb - n = 0 by omega] at HFH
      go_wp2
      go_ret
      exact ⟨rfl, HFH.out, (HFr.out.snoc _ _).snoc _ _⟩
    · rw [if_neg hc2] at HFH
      go_wp2
      go_ret
      exact ⟨rfl, HFH.out, (HFr.out.snoc _ _).snoc _ _⟩
  · have hb : (E == 0) = false := by simpa using hE
    have e : nxR E ns B = (0, B, E) := by unfold nxR; rw [if_pos hE]
    rw [e]
    clear h1 h2 h3 h4 h5
    go_enter Tryz.func73, Tryz.ntmps73
    go_wp2
    go_ret
    exact ⟨rfl, HR.out, Fr.refl _ _ _⟩
end
end Go.Proofs.YtloagniacjfkfaaGreatDoor
/- The document's run tells a byte. -/
namespace Go.Proofs.YtloagniacjfkfaaGreatDoor
open Go.RowKit
section
variable {w : World} {r : Nat} {gb go gk : Option Nat} {B out : List Int} {lim E : Int} {dn : Bool}
def tlR (lim E : Int) (out : List Int) (c : Int) : List Int × Int := if E ≠ 0 then (out, E) else if lim ≤ (out.length : Int) then (out, 9) else (out ++ [c], 0)
def TlPost (w : World) (r : Nat) (gb go gk : Option Nat) (B : List Int) (lim : Int) (dn : Bool) (o : List Int × Int) (e : Ending) (w' : World) : Prop :=
  e = .returned (.tuple #[]) ∧ ∃ go', RunAt w' r gb go' gk B o.1 lim o.2 dn ∧ Fr w w' r go ∧ (go' = go ∨ ∃ k, go' = some k ∧ w.heap.size ≤ k)
theorem RunAt.drewN (h : RunAt w r gb go gk B out lim E dn) (n : Nat) : RunAt (w.drewN n) r gb go gk B out lim E dn := h.old ⟨rfl, rfl, rfl, Nat.le_refl _, fun _ _ => rfl⟩
set_option maxHeartbeats 1600000 in
set_option maxRecDepth 20000 in
theorem rtell_any (c : Int) (hlo : out.length ≤ 1000000) (h : RunAt w r gb go gk B out lim E dn) : Calls Tryz.prog 71 #[.pointer (some ⟨r, 0, none⟩), .int .u8 c] w fun e w' => TlPost w r gb go gk B lim dn (tlR lim E out c) e w' := by
  have HR : Hid (RunAt w r gb go gk B out lim E dn) := h
  have HF : Hid (∀ n, Calls Tryz.prog 70 #[.pointer (some ⟨r, 0, none⟩), .bool (decide (lim ≤ (out.length : Int))), .int .i64 9] (w.drewN n) fun e w' => FlPost (w.drewN n) r gb go gk B out lim (flE E (decide (lim ≤ (out.length : Int))) 9) dn e w') := fun n => rfail_any _ _ (h.drewN n)
  obtain ⟨vb, vo, vk, all, ks, h1, h2, h3, h4, h5⟩ := h
  obtain ⟨k0, k2, k3, k4, k5, k6, fz⟩ := h1.cells
  obtain ⟨ao, co, hv, hle, hcm, hnn⟩ := h3.shape
  rw [vals_len] at hv hle
  subst hv
  obtain ⟨X, hX⟩ : ∃ X, flE E (decide (lim ≤ (out.length : Int))) 9 = X := ⟨_, rfl⟩
  have HX : Hid (flE E (decide (lim ≤ (out.length : Int))) 9 = X) := hX
  rw [hX] at HF
  clear hX h1 h2 h3 h4 h5
  go_enter Tryz.func71, Tryz.ntmps71
  go_wp2
  go_region_held3 (fun u => u.cell? ⟨r, 2, none⟩ = some (.slice ao out.length co) ∧ u.cell? ⟨r, 3, none⟩ = some (.int .i64 lim)) (first | go_keep | exact ⟨(c4 2 (by decide)).trans k2, (c4 3 (by decide)).trans k3⟩) (first
    | (go_at_call 70; refine Calls.mono (HF.out _) ?_; rintro e w4 ⟨rfl, h4, f4, c4⟩)
    | fail)
  have HR4 : Hid (RunAt w4 r gb go gk B out lim X dn ∧ Fr w w4 r none) := ⟨h4, ⟨f4.os, f4.tape, f4.output, f4.size, f4.block⟩⟩
  have q4 := h4.cE
  obtain ⟨vb4, vo4, vk4, all4, ks4, g1, g2, g3, g4, g5⟩ := h4
  have q2 := g1.cells.2.1
  have qf := g1.cells.2.2.2.2.2.2
  obtain rfl : Value.slice ao out.length co = vo4 := Option.some.inj (((c4 2 (by decide)).trans k2).symm.trans q2)
  have HG : Hid (RunC w4 r vb4 (.slice ao out.length co) vk4 all4 lim X dn ∧ Sl w4 3 vb4 gb (ivals B) ∧ Sl w4 5 (.slice ao out.length co) go (vals out) ∧ Sl w4 3 vk4 gk (ivals ks4) ∧ KsOk gk gb ks4 B) := ⟨g1, g2, g3, g4, g5⟩
  clear g1 g2 g3 g4 g5 f4 c4 HF k0 k2 k3 k4 k5 k6 fz HR
  by_cases hX0 : X = 0
  · have hE : E = 0 ∧ ¬ lim ≤ (out.length : Int) := by
      have := HX.out
      rw [hX0] at this
      unfold flE at this
      by_cases h1 : E = 0
      · refine ⟨h1, fun h2 => ?_⟩
        rw [if_pos ⟨h1, by simpa using h2⟩] at this
        cases this
      · rw [if_neg (fun h => h1 h.1)] at this
        exact absurd this h1
    have e : tlR lim E out c = (out ++ [c], 0) := by unfold tlR; rw [if_neg (by simp [hE.1]), if_neg hE.2]
    have He : Hid (tlR lim E out c = (out ++ [c], 0)) := e
    subst hX0
    clear HX hE e
    have HRw : Hid (Row (w4.alloc (.cells #[.int .u8 c] 5)) (some ⟨w4.heap.size, 0, none⟩) [c]) := row_lit w4 [c]
    have HSL : Hid (Sl (w4.alloc (.cells #[.int .u8 c] 5)) 5 (.slice ao out.length co) go (vals out)) := HG.out.2.2.1.same fun k hk => ((Below.refl _ _).alloc (Nat.le_refl _) _ : Below w4.heap.size w4 (w4.alloc _)).block k (HG.out.2.2.1.lt hk)
    go_wp2_with (at_builtin; refine wpList_more rfl _ _ rfl (.slice ao out.length co) go out rfl HSL.out (some ⟨w4.heap.size, 0, none⟩) 1 1 [c] rfl (fun e => by cases e) rfl HRw.out (by omega) ?_)
    intro v5 w5 g5 h5 k5 gr5
    obtain ⟨a5, c5, hv5, -⟩ := h5.shape
    obtain ⟨z5, hz5⟩ : ∃ z, v5 = .slice a5 z c5 := ⟨_, hv5⟩
    clear hv5
    subst hz5
    have e1 : Below w4.heap.size w4 (w4.alloc (.cells #[.int .u8 c] 5)) := (Below.refl _ _).alloc (Nat.le_refl _) _
    have n2 := HG.out.1.ne HG.out.2.1 (by decide)
    have n3 := HG.out.1.ne HG.out.2.2.1 (by decide)
    have n4 := HG.out.1.ne HG.out.2.2.2.1 (by decide)
    have bb : ∀ k, k < w4.heap.size → go ≠ some k → w5.heap[k]? = w4.heap[k]? := fun k hk hne => (gr5.block k (Nat.lt_of_lt_of_le hk e1.size) (fun e => hne e.symm)).trans (e1.block k hk)
    have hrl := HG.out.1.lt
    have hr5 : RunC w5 r vb4 (.slice ao out.length co) vk4 all4 lim 0 dn := HG.out.1.same (bb r hrl (fun e => n3 r e rfl))
    have p2 := hr5.cells.2.1
    have pf := hr5.cells.2.2.2.2.2.2
    have HFin : Hid (TlPost w r gb go gk B lim dn (out ++ [c], 0) (.returned (.tuple #[])) (w5.setCell ⟨r, 2, none⟩ (.slice a5 z5 c5))) := by
      have hfr : Fr w4 w5 r go := ⟨gr5.os, gr5.tape, gr5.output, Nat.le_trans e1.size gr5.size, fun k hk _ hne => bb k hk (fun e => hne e.symm)⟩
      have hg5 : ∀ k, g5 = some k → k ≠ r := by
        intro k hk e
        subst e
        rcases k5 with e2 | ⟨j, e2, hj⟩
        · exact n3 k (e2 ▸ hk) rfl
        · rw [e2] at hk; cases hk; have := e1.size; omega
      refine ⟨rfl, g5, ⟨vb4, _, vk4, all4, ks4, hr5.set2 _, ?_, ?_, ?_, HG.out.2.2.2.2⟩, ?_, ?_⟩
      · exact HG.out.2.1.same fun k hk => by
          rw [Below.heap_setCell _ _ _ _ (n2 k hk)]
          exact bb k (HG.out.2.1.lt hk) (Sl.ne HG.out.2.1 HG.out.2.2.1 (by decide) k hk)
      · exact h5.same fun k hk => Below.heap_setCell _ _ _ _ (hg5 k hk)
      · exact HG.out.2.2.2.1.same fun k hk => by
          rw [Below.heap_setCell _ _ _ _ (n4 k hk)]
          exact bb k (HG.out.2.2.2.1.lt hk) (Sl.ne HG.out.2.2.2.1 HG.out.2.2.1 (by decide) k hk)
      · have f1 : Fr w w4 r go := ⟨HR4.out.2.os, HR4.out.2.tape, HR4.out.2.output, HR4.out.2.size, fun k hk h1 _ => HR4.out.2.block k hk h1 (by simp)⟩
        exact (f1.trans hfr (.inl rfl)).snoc 2 _
      · rcases k5 with e2 | ⟨j, e2, hj⟩
        · exact .inl e2
        · exact .inr ⟨j, e2, by have := HR4.out.2.size; omega⟩
    clear h5 k5 gr5 e1 n2 n3 n4 bb hrl hr5 HG HR4 HRw HSL q2 q4 qf
    go_wp2
    go_end0
    rw [He.out]
    exact HFin.out
  · have hb : (X == 0) = false := by simpa using hX0
    have e : tlR lim E out c = (out, X) := by
      have := HX.out
      unfold flE at this
      unfold tlR
      by_cases h1 : E = 0
      · rw [if_neg (by simp [h1])]
        by_cases h2 : lim ≤ (out.length : Int)
        · rw [if_pos ⟨h1, by simpa using h2⟩] at this
          rw [if_pos h2, this]
        · rw [if_neg (fun h => h2 (by simpa using h.2))] at this
          exact absurd (this.symm.trans h1) hX0
      · rw [if_neg (fun h => h1 h.1)] at this
        rw [if_pos h1, this]
    have He : Hid (tlR lim E out c = (out, X)) := e
    clear HX e HG
    go_wp2
    go_end0
    rw [He.out]
    exact ⟨rfl, go, HR4.out.1, ⟨HR4.out.2.os, HR4.out.2.tape, HR4.out.2.output, HR4.out.2.size, fun k hk h1 _ => HR4.out.2.block k hk h1 (by simp)⟩, .inl rfl⟩
end
end Go.Proofs.YtloagniacjfkfaaGreatDoor
