/- The lines, told one by one. -/
import Derived.Test.YtjkhldnjciakkaaAmJ
import Derived.Test.YtjkhldnjciakkaaRfY
import Derived.Shelf.RegionOpen
import Derived.LoopIn
import Derived.WalkMore
namespace Go.Proofs.Ytjkhldnjciakkaa
open Go.RowKit
attribute [local go_sem] Oper.semAt_some
/-- How many lines the first passes have. -/
def bsN (f : Nat → Nat) : Nat → Nat
  | 0 => 0
  | n + 1 => bsN f n + f n
def hNt (L : List Stp) (W H : Int) (i : Nat) : Nat := (higAt L W H i).toNat
def wNt (L : List Stp) (W H : Int) (i : Nat) : Nat := (widAt L W H i).toNat
def lnN (L : List Stp) (W H : Int) : Nat := bsN (hNt L W H) (psN L W H)
/-- The places of a pass's row. -/
def lnS (L : List Stp) (W H : Int) (i r : Nat) : List Int := spL (stAt L i).x (stAt L i).dx ((stAt L i).y + (r : Int) * (stAt L i).dy) (wNt L W H i)
/-- What yield is told of the k-th line. -/
def EncL (L : List Stp) (W H : Int) (k : Nat) (Wp W1 : World) (args : Array Value) : Prop :=
  ∃ i r g cur, i < psN L W H ∧ r < hNt L W H i ∧ k = bsN (hNt L W H) i + r ∧ args = #[.int .i64 ((i : Int) + 1), .slice (some ⟨g, 0, none⟩) (wNt L W H i) (wNt L W H i)] ∧ W1.heap[g]? = some (.cells cur 45 (0, 0)) ∧
    (∀ j, j < (lnS L W H i r).length → cur[j]? = some (.int .i64 ((lnS L W H i r)[j]?.getD 0))) ∧ Wp.heap.size ≤ g
/-- What a round keeps: all but the lines' own. -/
def kpL : Obj → Prop
  | .cells _ t _ => t ≠ 27 ∧ t ≠ 43 ∧ t ≠ 45
  | _ => True
/-- Within a pass's rows. -/
structure LrI (J : Nat → World → Prop) (s2 sb yb pb l l2 D2 : Nat) (W H : Int) (L : List Stp) (i r : Nat) (r1 : Loop) (r2 : Option (List Deferred)) (wr : World) : Prop where
  j : J (bsN (hNt L W H) i + r) wr
  bx : Bx wr s2 W H sb L
  yb : wr.heap[yb]? = some (.cells #[.func (.yield l) #[] #[]] 66 (0, 0))
  pb : wr.heap[pb]? = some (.cells #[.int .i64 (stAt L i).x, .int .i64 (stAt L i).y, .int .i64 (stAt L i).dx, .int .i64 (stAt L i).dy, .int .i64 (wNt L W H i), .int .i64 (hNt L W H i)] 24 (0, 0))
  l2 : wr.heap[l2]? = some (.loop r1)
  d2 : wr.heap[D2]? = some (.deferred r2)
section
variable {J : Nat → World → Prop} {s2 sb yb pb l l2 D2 : Nat} {W H : Int} {L : List Stp} {i r : Nat} {r1 : Loop} {r2 : Option (List Deferred)} {wr w' : World}
theorem LrI.old (h : LrI J s2 sb yb pb l l2 D2 W H L i r r1 r2 wr) (hJ : ∀ k W1 W2, J k W1 → Below W1.heap.size W1 W2 → J k W2) (hb : Below wr.heap.size wr w') : LrI J s2 sb yb pb l l2 D2 W H L i r r1 r2 w' :=
  ⟨hJ _ _ _ h.j hb, h.bx.old hb, (hb.block _ (lt_of_block h.yb)).trans h.yb, (hb.block _ (lt_of_block h.pb)).trans h.pb, (hb.block _ (lt_of_block h.l2)).trans h.l2, (hb.block _ (lt_of_block h.d2)).trans h.d2⟩
theorem LrI.kept (h : LrI J s2 sb yb pb l l2 D2 W H L i r r1 r2 wr) {B : Nat} (hl : l < B) (hs : B ≤ s2 ∧ B ≤ yb ∧ B ≤ pb ∧ B ≤ l2 ∧ B ≤ D2) (hsb : sb ≠ l) (hk : KpO kpL l wr w') {r' : Nat} (hj : J (bsN (hNt L W H) i + r') w') : LrI J s2 sb yb pb l l2 D2 W H L i r' r1 r2 w' := by
  have kk : ∀ {k : Nat} {o : Obj}, k ≠ l → wr.heap[k]? = some o → kpL o → w'.heap[k]? = some o := fun h1 h2 h3 => hk.block _ _ h1 h2 h3
  refine ⟨hj, ⟨kk (by omega) h.bx.b0 ⟨by decide, by decide, by decide⟩, kk (by omega) h.bx.b1 ⟨by decide, by decide, by decide⟩, kk (by omega) h.bx.b2 ⟨by decide, by decide, by decide⟩, ?_⟩, kk (by omega) h.yb ⟨by decide, by decide, by decide⟩, kk (by omega) h.pb ⟨by decide, by decide, by decide⟩, kk (by omega) h.l2 trivial, kk (by omega) h.d2 trivial⟩
  have hst : wr.heap[sb]? = some (.cells (stA L) 24 (0, 0)) := h.bx.st
  exact kk hsb hst ⟨by decide, by decide, by decide⟩
end
theorem roundIn_in {l2 m m' : Nat} {P : Program} {l : Nat} {f : FuncId} {tmps : Array Value} {assign body : Code} {w : World} {R : Ending → World → Prop} (h : RoundIn Fence.wide m P l f tmps assign body w R) : RoundIn (Fence.wide.inRound l2) m' P l f tmps assign body w R :=
  ⟨h.1, fun c cs _ => h.2 c cs (room_wide _)⟩
theorem bsN_le (f : Nat → Nat) {i n : Nat} (h : i ≤ n) : bsN f i ≤ bsN f n := by
  induction n with
  | zero => obtain rfl : i = 0 := (by omega); exact Nat.le_refl _
  | succ n ih =>
    by_cases e : i = n + 1
    · subst e; exact Nat.le_refl _
    · have := ih (by omega); rw [bsN]; omega
theorem bsN_lt (f : Nat → Nat) {i r n : Nat} (h : i < n) (hr : r < f i) : bsN f i + r < bsN f n := by
  have := bsN_le f (show i + 1 ≤ n by omega)
  rw [bsN] at this; omega
set_option maxHeartbeats 3200000 in
set_option maxRecDepth 20000 in
theorem lines1_iter (s sb : Nat) (W H : Int) (L : List Stp) (hL : ∀ p ∈ L, p.ok) (hl7 : L.length ≤ 7) : IxIterG Try.prog 35 #[.pointer (some ⟨s, 0, none⟩), .pointer (some ⟨s + 1, 0, none⟩), .pointer (some ⟨s + 2, 0, none⟩)] (EncL L W H) (fun w => Bx w s W H sb L) kpL (lnN L W H) := by
  intro l J Dn W0 hJ hJb hDb hl hlr h0 hY
  obtain ⟨yb, hyb⟩ : ∃ yb, W0.heap.size = yb := ⟨_, rfl⟩
  have HJ : Hid ((∀ k W1, J k W1 → Bx W1 s W H sb L) ∧ (∀ k W1 W2, J k W1 → Bk W0.heap.size W1 W2 → J k W2) ∧ (∀ W1 W2, Dn W1 → Bk W0.heap.size W1 W2 → Dn W2)) := ⟨hJ, hJb, hDb⟩
  have HLR : Hid (∀ k W1, J k W1 → ∃ r, W1.heap[l]? = some (.loop r)) := hlr
  have HL : Hid ((∀ p ∈ L, p.ok) ∧ L.length ≤ 7 ∧ l < W0.heap.size) := ⟨hL, hl7, hl⟩
  have HY : Hid (∀ (i : Nat) Wp W1 args, i < lnN L W H → J i Wp → Below Wp.heap.size Wp W1 → EncL L W H i Wp W1 args → YieldAt Fence.wide 3 Try.prog l args W1 fun e W2 => ∃ b : Bool, e = .returned (.bool b) ∧ KpO kpL l W1 W2 ∧ (b = true → J (i + 1) W2) ∧ (b = false → Dn W2)) := hY
  have HW : Hid (J 0 (W0.alloc (.cells #[.func (.yield l) #[] #[]] 66)) ∧ (W0.alloc (.cells #[.func (.yield l) #[] #[]] 66)).heap[W0.heap.size]? = some (.cells #[.func (.yield l) #[] #[]] 66 (0, 0))) :=
    ⟨hJb 0 _ _ h0 (Bk.of_below _ ((Below.refl _ W0).alloc (Nat.le_refl _) _)), World.alloc_heap_new W0 _⟩
  obtain ⟨k0, k1, k2⟩ := (hJ 0 _ HW.out.1).cells
  clear hJ hJb hDb hl hlr h0 hY hL hl7 hyb
  refine calls_of_wp_marks Try.func35 rfl ?_
  simp only [Try.ntmps35, List.size_toArray, List.length_cons, List.length_nil, Nat.reduceAdd, Nat.reduceSub, Array.replicate_succ, Array.replicate_zero, List.push_toArray, List.append_toArray, List.nil_append, List.cons_append]
  go_wp2_with fail
  obtain ⟨w1, hw1⟩ : ∃ w1, W0.alloc (.cells #[.func (.yield l) #[] #[]] 66) = w1 := ⟨_, rfl⟩
  have hsz1 : w1.heap.size = W0.heap.size + 1 := by rw [← hw1]; simp
  rw [hw1] at HW k0 k1 k2 ⊢
  clear hw1
  go_step3
  go_wp2_with fail
  go_step3
  go_wp2_with fail
  refine (passes_any W H _ _ _ w1).mono ?_
  rintro e w2 ⟨rfl, hw2⟩
  unfold boxF
  have hb2 : Below w1.heap.size w1 w2 := by rw [hw2]; exact below_boxW ..
  have hbx2 : Bx w2 w1.heap.size W H sb L := by
    have k := (HJ.out.1 0 _ HW.out.1)
    rw [hw2]; exact Bx.new k.st
  have hs2 : w2.heap.size = w1.heap.size + 3 := by rw [hw2]; exact size_boxW ..
  have H2 : Hid (J 0 w2 ∧ w2.heap[W0.heap.size]? = some (.cells #[.func (.yield l) #[] #[]] 66 (0, 0)) ∧ Bx w2 w1.heap.size W H sb L) :=
    ⟨HJ.out.2.1 _ _ _ HW.out.1 (Bk.of_below _ hb2), (hb2.block _ (by omega)).trans HW.out.2, hbx2⟩
  have HSZ : Hid (w1.heap.size = W0.heap.size + 1 ∧ w2.heap.size = w1.heap.size + 3) := ⟨hsz1, hs2⟩
  clear hw2 hb2 hbx2 HW k0 k1 k2 hsz1 hs2
  go_wp2
  refine wp_range_ixG (gf := 33) rfl (callFnA Try.func33 (by kernel_rfl) (by kernel_rfl)) ((passes_iter w1.heap.size sb W H L HL.out.1 HL.out.2.1).general (fun _ => False)) (fun _ _ _ _ e => by rw [e]; rfl)
    (fun i Wa => J (bsN (hNt L W H) i) Wa ∧ Wa.heap[W0.heap.size]? = some (.cells #[.func (.yield l) #[] #[]] 66 (0, 0)) ∧ Bx Wa w1.heap.size W H sb L) (fun c Wa => c = .exit 0 ∧ Dn Wa)
    (fun i Wa Wb h hk => ⟨HJ.out.2.1 _ _ _ h.1 (hk.mono (by have := HSZ.out; omega)), hk.cells h.2.1, h.2.2.same fun k o hk' ho => by obtain ⟨c, t, f, rfl, -⟩ := ho; exact hk.cells hk'⟩)
    (fun c Wa Wb h hk => ⟨h.1, HJ.out.2.2 _ _ h.2 (hk.mono (by have := HSZ.out; omega))⟩) (fun i Wa h => h.2.2) H2.out ?body ?done ?stop
  case body =>
    rintro i Wp Wa args hi HI hbp rfl hlp hdf
    unfold psE PsV
    simp only [List.zip_toArray, List.zip_cons_cons, List.zip_nil_right, List.foldl_toArray, List.foldl_cons, List.foldl_nil, List.setIfInBounds_toArray, List.set_cons_succ, List.set_cons_zero]
    have hp : picN W H := by by_cases hp : picN W H; exact hp; (unfold psN at hi; rw [if_neg hp] at hi; omega)
    have hwb := wid_bd (stAt_ok HL.out.1 i) (w := W) (h := H) hp.2.1
    have hhb := hig_bd (stAt_ok HL.out.1 i) (w := W) (h := H) hp.2.2.2.1
    have ew : wid (stAt L i) W H = (wNt L W H i : Int) := by unfold wNt widAt; omega
    have eh : hig (stAt L i) W H = (hNt L W H i : Int) := by unfold hNt higAt; omega
    rw [ew, eh]
    rw [ew] at hwb
    rw [eh] at hhb
    clear ew eh
    have h7 : i ≤ 7 := by unfold psN at hi; rw [if_pos hp] at hi; have := HL.out.2.1; omega
    obtain ⟨r1, hr1⟩ := hlp
    obtain ⟨r2, hr2⟩ := hdf
    have HI2 : Hid (J (bsN (hNt L W H) i) Wa ∧ Wa.heap[W0.heap.size]? = some (.cells #[.func (.yield l) #[] #[]] 66 (0, 0)) ∧ Bx Wa w1.heap.size W H sb L ∧ Wa.heap[w2.heap.size + 1]? = some (.loop r1) ∧ Wa.heap[w2.heap.size]? = some (.deferred r2)) :=
      ⟨HJ.out.2.1 _ _ _ HI.1 (Bk.of_below _ hbp), (hbp.block _ (lt_of_block HI.2.1)).trans HI.2.1, HI.2.2.old hbp, hr1, hr2⟩
    have hlt1 := lt_of_block hr1
    clear HI hbp hr1 hr2 Wp
    have HPI : Hid (picN W H ∧ i < psN L W H) := ⟨hp, hi⟩
    clear hp hi
    generalize hP : stAt L i = p
    have HP : Hid (stAt L i = p) := hP
    clear hP
    obtain ⟨N, hN⟩ : ∃ N, hNt L W H i = N := ⟨_, rfl⟩
    obtain ⟨M, hM⟩ : ∃ M, wNt L W H i = M := ⟨_, rfl⟩
    rw [hN] at hhb ⊢
    rw [hM] at hwb ⊢
    have HNM : Hid (hNt L W H i = N ∧ wNt L W H i = M) := ⟨hN, hM⟩
    clear hN hM
    gi_wp2
    obtain ⟨Wb, hWb⟩ : ∃ Wb, Wa.alloc (.cells #[.int .i64 p.x, .int .i64 p.y, .int .i64 p.dx, .int .i64 p.dy, .int .i64 M, .int .i64 N] 24) = Wb := ⟨_, rfl⟩
    have hbel : Below Wa.heap.size Wa Wb := by rw [← hWb]; exact (Below.refl _ Wa).alloc (Nat.le_refl _) _
    have hbox : Wb.heap[Wa.heap.size]? = some (.cells #[.int .i64 p.x, .int .i64 p.y, .int .i64 p.dx, .int .i64 p.dy, .int .i64 M, .int .i64 N] 24 (0, 0)) := by rw [← hWb]; exact World.alloc_heap_new Wa _
    rw [hWb]
    refine ⟨hbel.block _ (lt_of_block HI2.out.2.2.2.1), hbel.block _ (lt_of_block HI2.out.2.2.2.2), KpO.of_below hbel, ?_⟩
    intro o hig ho hdf ho2
    obtain ⟨rb, rfl⟩ := ho2
    obtain ⟨rd, hrd⟩ := hdf
    have HS : Hid (LrI J w1.heap.size sb W0.heap.size Wa.heap.size l (w2.heap.size + 1) w2.heap.size W H L i 0 rb rd (Wb.putObj (w2.heap.size + 1) (.loop rb))) := by
      have k := HI2.out
      refine ⟨?_, ?_, hig.cells ((hbel.block _ (lt_of_block k.2.1)).trans k.2.1), ?_, ho, hrd⟩
      · exact HJ.out.2.1 _ _ _ (HJ.out.2.1 _ _ _ k.1 (Bk.of_below _ hbel)) (hig.mono (by have := HSZ.out; omega))
      · exact (k.2.2.1.old hbel).same fun k o hk' ho => by obtain ⟨c, t, f, rfl, -⟩ := ho; exact hig.cells hk'
      · rw [HP.out, HNM.out.1, HNM.out.2]; exact hig.cells hbox
    generalize Wb.putObj (w2.heap.size + 1) (.loop rb) = Wc at *
    have HB : Hid (w2.heap.size + 1 < Wa.heap.size) := hlt1
    clear hbel hbox hWb hig ho hrd HI2 hlt1
    have hpb := HS.out.pb
    rw [HP.out, HNM.out.1, HNM.out.2] at hpb
    obtain ⟨u0, u1, u2, u3, u4, u5, -⟩ := six_cells hpb
    clear hpb
    gi_wp2
    gi_loopw [7, 16] (fun _ v wr => ∃ r : Nat, r ≤ N ∧ v = .int .i64 r ∧ Hid (Wc.heap.size ≤ wr.heap.size) ∧ Hid (LrI J w1.heap.size sb W0.heap.size Wa.heap.size l (w2.heap.size + 1) w2.heap.size W H L i r rb rd wr)) (fun _ v _ => N - (intOf v).toNat)
    case atStart => exact ⟨0, Nat.zero_le _, rfl, Nat.le_refl _, HS⟩
    case round =>
      clear u0 u1 u2 u3 u4 u5
      obtain ⟨r, hr, rfl, HZ, HR⟩ := hrel
      have HT : Hid (Wc.heap[w2.heap.size + 1]? = some (.loop rb) ∧ Wc.heap[w2.heap.size]? = some (.deferred rd)) := ⟨HS.out.l2, HS.out.d2⟩
      clear HS
      by_cases hlt : r < N
      · have hdr : Below wr.heap.size wr wr.drew := ⟨rfl, rfl, rfl, Nat.le_refl _, fun _ _ => rfl⟩
        have HRd : Hid (LrI J w1.heap.size sb W0.heap.size Wa.heap.size l (w2.heap.size + 1) w2.heap.size W H L i r rb rd wr.drew) := HR.out.old (fun k Wx Wy hj hb => HJ.out.2.1 k Wx Wy hj (Bk.of_below _ hb)) hdr
        have HZd : Hid (Wc.heap.size ≤ wr.drew.heap.size) := HZ.out
        clear hdr HR HZ
        have hpb := HRd.out.pb
        rw [HP.out, HNM.out.1, HNM.out.2] at hpb
        obtain ⟨u0, u1, u2, u3, u4, u5, -⟩ := six_cells hpb
        obtain ⟨y0, -⟩ := one_cellA HRd.out.yb
        clear hpb
        have HCS : Hid (Calls Try.prog 36 #[.agg #[.int .i64 p.x, .int .i64 p.y, .int .i64 p.dx, .int .i64 p.dy, .int .i64 M, .int .i64 N], .int .i64 r] wr.drew fun e w3 => ∃ g, e = .returned (.slice (some ⟨g, 0, none⟩) M M) ∧ w3.cell? ⟨W0.heap.size, 0, none⟩ = some (.func (.yield l) #[] #[]) ∧ Hid (LrI J w1.heap.size sb W0.heap.size Wa.heap.size l (w2.heap.size + 1) w2.heap.size W H L i r rb rd w3 ∧ Wc.heap.size ≤ w3.heap.size) ∧
            ∃ fn tmps assign body, (Instr.yield l #[.int .i64 ((i : Int) + 1), .slice (some ⟨g, 0, none⟩) M M]).run Try.prog w3 = .ok (.round l fn tmps assign body) w3 ∧ Hid (RoundIn (Fence.wide.inRound (w2.heap.size + 1)) 2 Try.prog l fn tmps assign body w3 fun e W2 => ∃ b : Bool, e = .returned (.bool b) ∧ KpO kpL l w3 W2 ∧ (b = true → J (bsN (hNt L W H) i + r + 1) W2) ∧ (b = false → Dn W2))) := by
          have C := spots_any p M (N : Int) (r : Int) wr.drew (by rw [← HP.out]; exact stAt_ok HL.out.1 i) (by omega) (by omega) (by omega)
          refine Calls.mono C ?_
          rintro e w3 ⟨g, cur, rfl, h1, h2, h3, h4⟩
          have hL3 := HRd.out.old (fun k Wx Wy hj hb => HJ.out.2.1 k Wx Wy hj (Bk.of_below _ hb)) h4
          have hy := HY.out (bsN (hNt L W H) i + r) wr.drew w3 #[.int .i64 ((i : Int) + 1), .slice (some ⟨g, 0, none⟩) M M] (bsN_lt _ HPI.out.2 (by rw [HNM.out.1]; exact hlt)) HRd.out.j h4 ⟨i, r, g, cur, HPI.out.2, by rw [HNM.out.1]; exact hlt, rfl, by rw [HNM.out.2], h1, by unfold lnS; rw [HP.out, HNM.out.2]; exact h2, h3⟩
          obtain ⟨fn, tmps, assign, body, y1, y2⟩ := hy
          exact ⟨g, rfl, (one_cellA hL3.yb).1, ⟨hL3, Nat.le_trans HZd.out h4.size⟩, fn, tmps, assign, body, y1, roundIn_in y2⟩
        have hmix : Try.prog.follows .mixedOrders = true := by kernel_rfl
        clear HRd HZd
        gi_wp2_with fail
        gi_region_with_o (first
          | (refine HRo.out.mono ?_; clear HRo hy; rintro e w4 ⟨b, rfl, hk4, hb1, hb2⟩)
          | (refine ⟨trivial, ?_⟩; gi_at_call 36; refine CallsIn.inRound _ (callsIn_wide.2 (Calls.mono HCS.out ?_)); clear HCS; rintro e w3 ⟨g, rfl, y3, HL3, fn, tmps, assign, body, hy, HRo⟩)
          | fail)
        all_goals
          have hsb : sb ≠ l := fun e => by
            obtain ⟨rr, hrr⟩ := HLR.out _ _ HL3.out.1.j
            have hst : w3.heap[sb]? = some (.cells (stA L) 24 (0, 0)) := HL3.out.1.bx.st
            rw [e, hrr] at hst; cases hst
          have HK4 : Hid (w4.heap[w2.heap.size + 1]? = some (.loop rb) ∧ w4.heap[w2.heap.size]? = some (.deferred rd) ∧ Wc.heap.size ≤ w4.heap.size) := by
            have hl := HL.out.2.2
            have hz := HSZ.out
            exact ⟨hk4.block _ _ (by omega) HL3.out.1.l2 trivial, hk4.block _ _ (by omega) HL3.out.1.d2 trivial, Nat.le_trans HL3.out.2 hk4.size⟩
          have HJ4 : Hid (b = true → LrI J w1.heap.size sb W0.heap.size Wa.heap.size l (w2.heap.size + 1) w2.heap.size W H L i (r + 1) rb rd w4) := fun e =>
            HL3.out.1.kept (B := W0.heap.size) HL.out.2.2 (by have := HSZ.out; have := HB.out; omega) hsb hk4 (hb1 e)
          have HD4 : Hid (b = false → Dn w4) := hb2
          clear hk4 hb1 hb2 HL3 y3 u0 u1 u2 u3 u4 u5 y0
          cases b with
          | false =>
            have HD5 : Hid (Dn w4) := HD4.out rfl
            clear HD4 HJ4
            gi_wp2
            exact ⟨HK4.out.1.trans HT.out.1.symm, HK4.out.2.1.trans HT.out.2.symm, ⟨HK4.out.2.2, fun _ _ _ _ h => h.elim⟩, rfl, HD5.out⟩
          | true =>
            have HJ5 : Hid _ := HJ4.out rfl
            clear HD4 HJ4
            gi_wp2
            go_roundw
            case rel => exact ⟨r + 1, hlt, by go_num, HK4.out.2.2, HJ5.out⟩
            case measure => simp [intOf]; omega
      · obtain rfl : r = N := by omega
        have HE : Hid (J (bsN (hNt L W H) (i + 1)) wr ∧ wr.heap[W0.heap.size]? = some (.cells #[.func (.yield l) #[] #[]] 66 (0, 0)) ∧ Bx wr w1.heap.size W H sb L) := by
          have k := HR.out
          have kj := k.j
          refine ⟨?_, k.yb, k.bx⟩
          rw [bsN, HNM.out.1]; exact kj
        gi_wp2
        exact ⟨HR.out.l2.trans HT.out.1.symm, HR.out.d2.trans HT.out.2.symm, ⟨HZ.out, fun _ _ _ _ h => h.elim⟩, HE.out⟩
  case done =>
    intro Wa HI hD hlp
    have HF : Hid (J (lnN L W H) (Wa.putObj w2.heap.size (.deferred none))) := HJ.out.2.1 _ _ _ HI.1 (Bk.of_put _ (by have := HSZ.out; omega) (no_cells_def hD))
    have HDD : Hid (Wa.heap[w2.heap.size]? = some (.deferred (some []))) := hD
    clear HI hD hlp H2
    go_wp2
    rw [Exit.noGoto_normal]
    refine ⟨by simp, .inl ⟨_, _, rfl, run_takeDeferred HDD.out, ?_⟩⟩
    exact ⟨_, results_none rfl _ _ _, ⟨_, rfl⟩, .inl HF.out⟩
  case stop =>
    rintro c Wa ⟨rfl, HDn⟩ hD hlp
    have HF : Hid (Dn (Wa.putObj w2.heap.size (.deferred none))) := HJ.out.2.2 _ _ HDn (Bk.of_put _ (by have := HSZ.out; omega) (no_cells_def hD))
    have HDD : Hid (Wa.heap[w2.heap.size]? = some (.deferred (some []))) := hD
    clear HDn hD hlp H2
    go_wp2
    rw [Exit.noGoto_normal]
    refine ⟨by simp, .inl ⟨_, _, rfl, run_takeDeferred HDD.out, ?_⟩⟩
    exact ⟨_, results_none rfl _ _ _, ⟨_, rfl⟩, .inr HF.out⟩
end Go.Proofs.Ytjkhldnjciakkaa
