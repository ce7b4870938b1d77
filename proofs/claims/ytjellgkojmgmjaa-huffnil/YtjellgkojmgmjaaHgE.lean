/- Two rows of parcels laid in one. -/
import Derived.Test.YtjellgkojmgmjaaHgD
import Derived.Test.YtjellgkojmgmjaaStepL
import Derived.WalkMore
import Derived.Deep.RegionLaw
namespace Go.Proofs.Ytjellgkojmgmjaa
open Go.RowKit

theorem step_push {w : World} {ops : Array Oper} {o : Oper} {a : Act} {K : Act → World → Prop} {Q : Exit → Act → World → Prop} {E : Prop} (hgd : o.guard = none) (s x : Operand)
    (ho : o.op = .call { callee := .builtin .append, args := #[s, x], argTypes := #[83, 83] })
    (base : Nat) (v : Value) (xs news : List Pv) (hs : a.eval s = v) (hp : PRow w base v xs) (ad : Option Addr) (m c : Nat) (hx : a.eval x = .slice ad m c) (hm : news.length = m) (hc : ad = none → c = 0) (hr : RV w ad news)
    (hlen : xs.length + m ≤ 1000000) (hbase : base ≤ w.heap.size)
    (h : ∀ v' w', PRow w' base v' (xs ++ news) → w.grownBy w' v.ownBlock → K (a.put o.dst v') w') : if Region.wanted o (yielded ops a.tmps) = true then Oper.wp Try.prog o a w K Q else E :=
  step_of_list hgd (wpList_push_parcel hgd s x ho base v xs news hs hp ad m c hx hm hc hr hlen hbase fun v' w' h1 h2 => ⟨rfl, h v' w' h1 h2⟩)

theorem below_drew_alloc (w : World) (o : Obj) : Below w.heap.size w (w.drew.alloc o) := ⟨rfl, rfl, rfl, by simp, fun k hk => ((Below.refl w.drew.heap.size w.drew).alloc (Nat.le_refl _) o).block k hk⟩
theorem rv_new (w : World) (x : Pv) : RV (w.alloc (.cells #[.int .i64 x.wt, .slice (some ⟨x.b, 0, none⟩) x.n x.c] 86)) (some ⟨w.heap.size, 0, none⟩) [x] := by
  refine .inr ⟨_, 0, #[.int .i64 x.wt, .slice (some ⟨x.b, 0, none⟩) x.n x.c], rfl, heap_alloc_new _ _, fun i u hi => ?_⟩
  rw [Nat.zero_add]
  simpa [flat, Pv.enc] using hi
theorem RV.grown {w w' : World} {b off : Nat} {xs : List Pv} {g : Option Nat} (h : RV w (some ⟨b, off, none⟩) xs) (hg : w.grownBy w' g) (hne : some b ≠ g) : RV w' (some ⟨b, off, none⟩) xs := by
  by_cases hz : xs = []
  · exact .inl hz
  · exact h.same fun x hx _ => by cases hx; exact hg.block _ (h.lt ⟨b, off, none⟩ rfl hz) hne
def LaidPost (w : World) (zs : List Pv) (e : Ending) (w' : World) : Prop :=
  ∃ v, e = .returned v ∧ PRow w' w.heap.size v zs ∧ Below w.heap.size w w'
/-- Behind t of the first row: what is laid, and what is left of the second one. -/
def LdRel (w : World) (xs ys : List Pv) (t : Nat) (v pv : Value) (wr : World) : Prop :=
  ∃ row rest ap cp, PRow wr w.heap.size v row ∧ pv = .slice ap rest.length cp ∧ (ap = none → cp = 0) ∧ rest.length ≤ cp ∧ cp ≤ maxLen ∧ RV w ap rest ∧ row ++ mrg Pv.wt (xs.drop t) rest = mrg Pv.wt xs ys ∧ row.length + rest.length + (xs.length - t) = xs.length + ys.length ∧ Below w.heap.size w wr

theorem ld_step {w w8 : World} {xs ys row rest : List Pv} {t j : Nat} {s : Pv} {v8 : Value} {ap : Option Addr} {cp : Nat} (hd : xs.drop t = s :: xs.drop (t + 1)) (hjl : j ≤ rest.length) (h1 : ∀ k, k < j → (rest[k]?.getD default).wt < s.wt) (h2 : j = rest.length ∨ s.wt ≤ (rest[j]?.getD default).wt)
    (hmr : row ++ mrg Pv.wt (xs.drop t) rest = mrg Pv.wt xs ys) (hxt : t < xs.length) (hrow : row.length + rest.length + (xs.length - t) = xs.length + ys.length) (hp : PRow w8 w.heap.size v8 (row ++ rest.take j ++ [s])) (hb : Below w.heap.size w w8)
    (hap : ap = none → cp = 0) (hrl : (rest.drop j).length ≤ cp) (hcp : cp ≤ maxLen) (hrv : RV w ap (rest.drop j)) : LdRel w xs ys (t + 1) v8 (.slice ap (rest.length - j) cp) w8 := by
  obtain ⟨e1, e2⟩ := while_at (fun p : Pv => decide (p.wt < s.wt)) rest j hjl (fun k hk => decide_eq_true (h1 k hk)) (h2.imp id fun h => decide_eq_false (by omega))
  refine ⟨_, rest.drop j, ap, cp, hp, by rw [List.length_drop], hap, hrl, hcp, hrv, ?_, ?_, hb⟩
  · rw [← hmr, hd, mrg, e1, e2, List.append_assoc, List.append_assoc]; rfl
  · simp only [List.length_append, List.length_take, List.length_drop, List.length_cons, List.length_nil]; omega
set_option maxHeartbeats 1600000 in
set_option maxRecDepth 20000 in
theorem laid_any (a1 a2 : Option Addr) (n1 n2 c1 c2 : Nat) (xs ys : List Pv) (w : World) (hx : xs.length = n1) (hy : ys.length = n2) (hs : n1 + n2 ≤ 10000) (hc2 : a2 = none → c2 = 0) (hl2 : n2 ≤ c2) (hm2 : c2 ≤ maxLen) (r1 : RV w a1 xs) (r2 : RV w a2 ys) :
    Calls Try.prog 42 #[.slice a1 n1 c1, .slice a2 n2 c2] w fun e w' => LaidPost w (mrg Pv.wt xs ys) e w' := by
  have HX : Hid (xs.length = n1) := hx
  have HY : Hid (ys.length = n2) := hy
  have HR1 : Hid (RV w a1 xs) := r1
  have HS : Hid (LdRel w xs ys 0 (.slice none 0 0) (.slice a2 n2 c2) w) := ⟨[], ys, a2, c2, World.ownsRow_nil _ _ _ _, by rw [hy], hc2, by omega, hm2, r2, rfl, by simp; omega, Below.refl _ _⟩
  clear hx hy r1 r2 hc2 hl2 hm2
  go_enter Try.func42, Try.ntmps42
  go_wp2
  go_step3
  go_wp2
  go_step3
  go_wp2
  go_loopw [5, 1, 12] (fun v pv i wr => ∃ t : Nat, t ≤ n1 ∧ i = .int .i64 t ∧ LdRel w xs ys t v pv wr) (fun _ _ i _ => n1 - (intOf i).toNat)
  case atStart => exact ⟨0, Nat.zero_le _, rfl, HS.out⟩
  case round =>
    clear HS
    obtain ⟨V, hV⟩ : ∃ V, V = u5 := ⟨_, rfl⟩
    subst hV
    obtain ⟨t, ht, rfl, row, rest, ap, cp, hp, rfl, hap, hrl, hcp, hrv, hmr, hln, hbel⟩ := hrel
    by_cases hlt : t < n1
    · obtain ⟨b, off, rfl, q0, q1⟩ := HR1.out.at t (by have := HX.out; omega)
      obtain ⟨s, hs'⟩ : ∃ s, xs[t]?.getD default = s := ⟨_, rfl⟩
      rw [hs'] at q0 q1
      have q0' := (hbel.cell (p := ⟨b, off + t * 2, none⟩) (cell_lt q0)).trans q0
      have q1' := (hbel.cell (p := ⟨b, off + t * 2 + 1, none⟩) (cell_lt q1)).trans q1
      have HD : Hid (xs.drop t = s :: xs.drop (t + 1)) := by
        show _ = _
        rw [← hs', List.drop_eq_getElem_cons (by have := HX.out; omega), List.getElem?_eq_getElem (by have := HX.out; omega)]; rfl
      clear q0 q1 hs'
      obtain ⟨sw, sb, sn, sc⟩ := s
      simp only at q0' q1'
      have HK : Hid (PRow wr w.heap.size V row ∧ RV w ap rest ∧ row ++ mrg Pv.wt (xs.drop t) rest = mrg Pv.wt xs ys ∧ Below w.heap.size w wr) := ⟨hp, hrv, hmr, hbel⟩
      have hcp2 : (cp : Int) ≤ 9223372036854775807 := by unfold maxLen at hcp; omega
      clear hp hrv hmr hbel hcp
      obtain ⟨w1, hw1⟩ : ∃ w1, wr.alloc (.cells #[.int .i64 sw, .slice (some ⟨sb, 0, none⟩) sn sc] 86) = w1 := ⟨_, rfl⟩
      have HW1 : Hid (w1.heap[wr.heap.size]? = some (.cells #[.int .i64 sw, .slice (some ⟨sb, 0, none⟩) sn sc] 86 (0, 0)) ∧ Below wr.heap.size wr w1) := by
        rw [← hw1]; exact ⟨heap_alloc_new _ _, (Below.refl _ _).alloc (Nat.le_refl _) _⟩
      go_wp2
      clear hw1
      obtain ⟨B, hB⟩ : ∃ B, wr.heap.size = B := ⟨_, rfl⟩
      rw [hB] at HW1 ⊢
      have hBw : w.heap.size ≤ B := by rw [← hB]; exact HK.out.2.2.2.size
      have HK1 : Hid (PRow w1 w.heap.size V row ∧ RV w ap rest ∧ row ++ mrg Pv.wt (xs.drop t) rest = mrg Pv.wt xs ys ∧ Below w.heap.size w w1) := by
        obtain ⟨k1, k2, k3, k4⟩ := HK.out
        have h2 := HW1.out.2
        rw [← hB] at h2
        exact ⟨k1.kept h2, k2, k3, k4.trans (h2.mono k4.size)⟩
      have HVL : Hid (∀ k, V.ownBlock = some k → k < B) := fun k hk => by
        rw [← hB]
        rcases HK.out.1.2 with ⟨h, _⟩ | ⟨g, cap, cur, h, _, hh, _⟩
        · rw [h] at hk; cases hk
        · rw [h] at hk; cases hk; exact lt_of_block hh
      clear HK q0' q1' hB
      go_loopw [18, 5, 1] (fun i v5 v1 wr2 => ∃ j : Nat, j ≤ rest.length ∧ i = .int .i64 j ∧ V = v5 ∧ v1 = .slice ap rest.length cp ∧ Hid (∀ k, k < j → (rest[k]?.getD default).wt < sw) ∧ Below w1.heap.size w1 wr2) (fun i _ _ _ => rest.length - (intOf i).toNat)
      case atStart => exact ⟨0, Nat.zero_le _, rfl, rfl, rfl, (fun k hk => by omega), Below.refl _ _⟩
      case round =>
        obtain ⟨j, hj, rfl, rfl, rfl, HJ, hb2⟩ := hrel
        by_cases hjl : j < rest.length
        · obtain ⟨pb, poff, hap', q0, q1⟩ := HK1.out.2.1.at j hjl
          subst hap'
          have HLW : Hid (Below w.heap.size w wr) := HK1.out.2.2.2.trans (hb2.mono HK1.out.2.2.2.size)
          have p0 := (HLW.out.cell (p := ⟨pb, poff + j * 2, none⟩) (cell_lt q0)).trans q0
          have p1 := (HLW.out.cell (p := ⟨pb, poff + j * 2 + 1, none⟩) (cell_lt q1)).trans q1
          have HPB : Hid (∃ p : Pv, rest[j]?.getD default = p) := ⟨_, rfl⟩
          obtain ⟨⟨pw, pbb, pn, pc⟩, hpp⟩ := HPB.out
          rw [hpp] at p0 p1
          simp only at p0 p1
          have HPW : Hid ((rest[j]?.getD default).wt = pw) := by show _ = _; rw [hpp]
          clear q0 q1 hpp HPB
          obtain ⟨w2, hw2⟩ : ∃ w2, wr.alloc (.cells #[.int .i64 pw, .slice (some ⟨pbb, 0, none⟩) pn pc] 86) = w2 := ⟨_, rfl⟩
          have hB1 : B < w1.heap.size := lt_of_block HW1.out.1
          have HB2 : Hid (Below w1.heap.size w1 w2) := by rw [← hw2]; exact hb2.alloc hb2.size _
          have hs0 : w2.heap[B]? = some (.cells #[.int .i64 sw, .slice (some ⟨sb, 0, none⟩) sn sc] 86 (0, 0)) := (HB2.out.block B hB1).trans HW1.out.1
          obtain ⟨s0, s1, _, _⟩ := two_cells hs0
          have HSB : Hid (w2.heap[B]? = some (.cells #[.int .i64 sw, .slice (some ⟨sb, 0, none⟩) sn sc] 86 (0, 0))) := hs0
          have p00 : w2.cell? ⟨wr.heap.size, 0, none⟩ = some (.int .i64 pw) := by rw [← hw2]; simp
          have HBB : Hid (Below w.heap.size w w2) := HK1.out.2.2.2.trans (HB2.out.mono HK1.out.2.2.2.size)
          clear hs0
          by_cases hle : sw ≤ pw
          · have HP : Hid (∀ W, Below w2.heap.size w2 W → PRow W w.heap.size V row ∧ RV W (some ⟨pb, poff, none⟩) (rest.take j) ∧ Below w.heap.size w W) := fun W hW => by
              have h1 := HBB.out.trans (hW.mono HBB.out.size)
              exact ⟨HK1.out.1.kept (HB2.out.trans (hW.mono HB2.out.size)), (HK1.out.2.1.old h1).take j, h1⟩
            have hjc : (j : Int) ≤ (cp : Int) := by omega
            have htl : (rest.take j).length = j := by rw [List.length_take]; omega
            have HTL : Hid ((rest.take j).length = j) := htl
            have hrj : row.length + j ≤ 10000 := by have := HX.out; have := HY.out; omega
            have hcj : ¬ cp = j := by omega
            have HSW : Hid (∀ W, Below w2.heap.size w2 W → W.heap[B]? = some (.cells #[.int .i64 sw, .slice (some ⟨sb, 0, none⟩) sn sc] 86 (0, 0)) ∧ B < W.heap.size) := fun W hW => by
              have h1 := (hW.block B (lt_of_block HSB.out)).trans HSB.out
              exact ⟨h1, lt_of_block h1⟩
            have HVW : Hid (∀ k, V.ownBlock = some k → w.heap.size ≤ k) := PRow.blk HK1.out.1
            have HVB : Hid (∀ k, V.ownBlock = some k → k < B) := HVL.out
            have HNE : Hid (some B ≠ V.ownBlock) := fun e => by have := HVB.out B e.symm; omega
            have HN2 : Hid (some w2.heap.size ≠ V.ownBlock) := fun e => by have := HVB.out _ e.symm; have := lt_of_block HSB.out; omega
            have HNB : Hid (RV (w2.drew.alloc (.cells #[.int .i64 sw, .slice (some ⟨sb, 0, none⟩) sn sc] 86)) (some ⟨w2.heap.size, 0, none⟩) [⟨sw, sb, sn, sc⟩]) := rv_new w2.drew ⟨sw, sb, sn, sc⟩
            clear htl
            go_wp2
            clear hw2
            go_region_law (first
              | (refine step_push rfl _ _ rfl w.heap.size V row (rest.take j) rfl (HP.out _ ?_).1 (some ⟨pb, poff, none⟩) j cp rfl HTL.out hap (HP.out _ ?_).2.1 ?_ (HP.out _ ?_).2.2.size ?_; (first | exact ⟨rfl, rfl, rfl, Nat.le_refl _, fun _ _ => rfl⟩ | exact below_drew_alloc _ _); (first | exact ⟨rfl, rfl, rfl, Nat.le_refl _, fun _ _ => rfl⟩ | exact below_drew_alloc _ _); omega; (first | exact ⟨rfl, rfl, rfl, Nat.le_refl _, fun _ _ => rfl⟩ | exact below_drew_alloc _ _); intro v7 w7 hp7 hg7; have hs7 := (hg7.block B (HSW.out _ (by (first | exact ⟨rfl, rfl, rfl, Nat.le_refl _, fun _ _ => rfl⟩ | exact below_drew_alloc _ _))).2 HNE.out).trans (HSW.out _ (by (first | exact ⟨rfl, rfl, rfl, Nat.le_refl _, fun _ _ => rfl⟩ | exact below_drew_alloc _ _))).1; have s70 := (two_cells hs7).1; have s71 := (two_cells hs7).2.1; have hb7 : Below w.heap.size w w7 := Fr.below (HP.out _ (by (first | exact ⟨rfl, rfl, rfl, Nat.le_refl _, fun _ _ => rfl⟩ | exact below_drew_alloc _ _))).2.2 (Fr.grown (r := w.heap.size) hg7) (Nat.le_refl _) HVW.out (HP.out _ (by (first | exact ⟨rfl, rfl, rfl, Nat.le_refl _, fun _ _ => rfl⟩ | exact below_drew_alloc _ _))).2.2.size)
              | (refine step_push rfl _ _ rfl w.heap.size _ (row ++ rest.take j) [⟨sw, sb, sn, sc⟩] rfl (hp7.kept ((Below.refl _ _).alloc (Nat.le_refl _) _)) (some ⟨w7.heap.size, 0, none⟩) 1 1 rfl rfl ?_ (rv_new w7 ⟨sw, sb, sn, sc⟩) ?_ ?_ ?_; (intro h; cases h); (rw [List.length_append, HTL.out]; omega); (exact Nat.le_trans hb7.size (by simp)); intro v8 w8 hp8 hg8; have hb8 : Below w.heap.size w w8 := Fr.below (hb7.alloc hb7.size _) (Fr.grown (r := w.heap.size) hg8) (Nat.le_refl _) (PRow.blk hp7) (Nat.le_trans hb7.size (by simp)))
              | (refine step_push rfl _ _ rfl w.heap.size _ (row ++ rest.take j) [⟨sw, sb, sn, sc⟩] rfl hp7 (some ⟨w2.heap.size, 0, none⟩) 1 1 rfl rfl ?_ (HNB.out.grown hg7 HN2.out) ?_ ?_ ?_; (intro h; cases h); (rw [List.length_append, HTL.out]; omega); (exact hb7.size); intro v8 w8 hp8 hg8; have hb8 : Below w.heap.size w w8 := Fr.below hb7 (Fr.grown (r := w.heap.size) hg8) (Nat.le_refl _) (PRow.blk hp7) hb7.size)
              | fail)
            all_goals
              have R : Hid (LdRel w xs ys (t + 1) v8 (.slice (some ⟨pb, poff + j * 2, none⟩) (rest.length - j) (cp - j)) w8) :=
                ld_step HD.out (by omega) HJ.out (.inr (by rw [HPW.out]; exact hle)) HK1.out.2.2.1 (by have := HX.out; omega) hln hp8 hb8 (by intro h; cases h) (by rw [List.length_drop]; omega) (by unfold maxLen; omega) (HK1.out.2.1.drop j (by omega))
              clear hp7 hg7 hs7 s70 s71 hb7 hp8 hg8 hb8 HP HSW HNB HK1
              go_wp2
              go_roundw
              case rel => exact ⟨t + 1, by omega, by go_num, R.out⟩
              case measure => simp [intOf]; omega
          · have HJ2 : Hid (∀ k, k < j + 1 → (rest[k]?.getD default).wt < sw) := fun k hk => by
              by_cases e : k < j
              · exact HJ.out k e
              · obtain rfl : k = j := by omega
                rw [HPW.out]; omega
            clear HJ HPW HBB HSB HLW
            go_wp2
            go_roundw
            case rel => exact ⟨j + 1, by omega, by go_num, rfl, rfl, HJ2.out, by first | exact HB2.out | (rw [hw2]; exact HB2.out)⟩
            case measure => simp [intOf]; omega
        · obtain rfl : j = rest.length := by omega
          have hB1 : B < w1.heap.size := lt_of_block HW1.out.1
          have HBB : Hid (Below w.heap.size w wr) := HK1.out.2.2.2.trans (hb2.mono HK1.out.2.2.2.size)
          have hs0 : wr.heap[B]? = some (.cells #[.int .i64 sw, .slice (some ⟨sb, 0, none⟩) sn sc] 86 (0, 0)) := (hb2.block B hB1).trans HW1.out.1
          obtain ⟨s0, s1, _, _⟩ := two_cells hs0
          have HSB : Hid (wr.heap[B]? = some (.cells #[.int .i64 sw, .slice (some ⟨sb, 0, none⟩) sn sc] 86 (0, 0))) := hs0
          have HB2 : Hid (Below w1.heap.size w1 wr) := hb2
          clear hs0 hb2
          have HP : Hid (∀ W, Below wr.heap.size wr W → PRow W w.heap.size V row ∧ RV W ap rest ∧ Below w.heap.size w W) := fun W hW => by
            have h1 := HBB.out.trans (hW.mono HBB.out.size)
            exact ⟨HK1.out.1.kept (HB2.out.trans (hW.mono HB2.out.size)), HK1.out.2.1.old h1, h1⟩
          have hrj : row.length + rest.length ≤ 10000 := by have := HX.out; have := HY.out; omega
          have HSW : Hid (∀ W, Below wr.heap.size wr W → W.heap[B]? = some (.cells #[.int .i64 sw, .slice (some ⟨sb, 0, none⟩) sn sc] 86 (0, 0)) ∧ B < W.heap.size) := fun W hW => by
            have h1 := (hW.block B (lt_of_block HSB.out)).trans HSB.out
            exact ⟨h1, lt_of_block h1⟩
          have HVW : Hid (∀ k, V.ownBlock = some k → w.heap.size ≤ k) := PRow.blk HK1.out.1
          have HVB : Hid (∀ k, V.ownBlock = some k → k < B) := HVL.out
          have HNE : Hid (some B ≠ V.ownBlock) := fun e => by have := HVB.out B e.symm; omega
          have HN2 : Hid (some wr.heap.size ≠ V.ownBlock) := fun e => by have := HVB.out _ e.symm; have := lt_of_block HSB.out; omega
          have HNB : Hid (RV (wr.drew.alloc (.cells #[.int .i64 sw, .slice (some ⟨sb, 0, none⟩) sn sc] 86)) (some ⟨wr.heap.size, 0, none⟩) [⟨sw, sb, sn, sc⟩]) := rv_new wr.drew ⟨sw, sb, sn, sc⟩
          go_wp2
          go_region_law (first
              | (refine step_push rfl _ _ rfl w.heap.size V row rest rfl (HP.out _ ?_).1 ap rest.length cp rfl rfl hap (HP.out _ ?_).2.1 ?_ (HP.out _ ?_).2.2.size ?_; (first | exact ⟨rfl, rfl, rfl, Nat.le_refl _, fun _ _ => rfl⟩ | exact below_drew_alloc _ _); (first | exact ⟨rfl, rfl, rfl, Nat.le_refl _, fun _ _ => rfl⟩ | exact below_drew_alloc _ _); omega; (first | exact ⟨rfl, rfl, rfl, Nat.le_refl _, fun _ _ => rfl⟩ | exact below_drew_alloc _ _); intro v7 w7 hp7 hg7; have hs7 := (hg7.block B (HSW.out _ (by (first | exact ⟨rfl, rfl, rfl, Nat.le_refl _, fun _ _ => rfl⟩ | exact below_drew_alloc _ _))).2 HNE.out).trans (HSW.out _ (by (first | exact ⟨rfl, rfl, rfl, Nat.le_refl _, fun _ _ => rfl⟩ | exact below_drew_alloc _ _))).1; have s70 := (two_cells hs7).1; have s71 := (two_cells hs7).2.1; have hb7 : Below w.heap.size w w7 := Fr.below (HP.out _ (by (first | exact ⟨rfl, rfl, rfl, Nat.le_refl _, fun _ _ => rfl⟩ | exact below_drew_alloc _ _))).2.2 (Fr.grown (r := w.heap.size) hg7) (Nat.le_refl _) HVW.out (HP.out _ (by (first | exact ⟨rfl, rfl, rfl, Nat.le_refl _, fun _ _ => rfl⟩ | exact below_drew_alloc _ _))).2.2.size)
              | (refine step_push rfl _ _ rfl w.heap.size _ (row ++ rest) [⟨sw, sb, sn, sc⟩] rfl (hp7.kept ((Below.refl _ _).alloc (Nat.le_refl _) _)) (some ⟨w7.heap.size, 0, none⟩) 1 1 rfl rfl ?_ (rv_new w7 ⟨sw, sb, sn, sc⟩) ?_ ?_ ?_; (intro h; cases h); (rw [List.length_append]; omega); (exact Nat.le_trans hb7.size (by simp)); intro v8 w8 hp8 hg8; have hb8 : Below w.heap.size w w8 := Fr.below (hb7.alloc hb7.size _) (Fr.grown (r := w.heap.size) hg8) (Nat.le_refl _) (PRow.blk hp7) (Nat.le_trans hb7.size (by simp)))
              | (refine step_push rfl _ _ rfl w.heap.size _ (row ++ rest) [⟨sw, sb, sn, sc⟩] rfl hp7 (some ⟨wr.heap.size, 0, none⟩) 1 1 rfl rfl ?_ (HNB.out.grown hg7 HN2.out) ?_ ?_ ?_; (intro h; cases h); (rw [List.length_append]; omega); (exact hb7.size); intro v8 w8 hp8 hg8; have hb8 : Below w.heap.size w w8 := Fr.below hb7 (Fr.grown (r := w.heap.size) hg8) (Nat.le_refl _) (PRow.blk hp7) hb7.size)
              | fail)
          all_goals
            have R : Hid (LdRel w xs ys (t + 1) v8 (.slice none 0 0) w8) := by
              have := ld_step (ap := none) (cp := 0) HD.out (Nat.le_refl rest.length) HJ.out (.inl rfl) HK1.out.2.2.1 (by have := HX.out; omega) hln (by rw [List.take_length]; exact hp8) hb8 (fun _ => rfl) (by rw [List.drop_length]; exact Nat.le_refl _) (by decide) (.inl (List.drop_length))
              rwa [Nat.sub_self] at this
            clear hp7 hg7 hs7 s70 s71 hb7 hp8 hg8 hb8 HP HSW HNB HK1
            go_wp2
            go_roundw
            case rel => exact ⟨t + 1, by omega, by go_num, R.out⟩
            case measure => simp [intOf]; omega
    · obtain rfl : t = n1 := by omega
      have e0 : xs.drop t = [] := List.drop_eq_nil_of_le (by have := HX.out; omega)
      rw [e0] at hmr
      have HK : Hid (PRow wr w.heap.size V row ∧ RV w ap rest ∧ row ++ rest = mrg Pv.wt xs ys ∧ Below w.heap.size w wr) := ⟨hp, hrv, hmr, hbel⟩
      have hln2 : row.length + rest.length ≤ 10000 := by have := HX.out; have := HY.out; omega
      clear hp hrv hmr hbel e0 hcp
      go_wp2_with (at_builtin; refine wpList_push_parcel rfl _ _ rfl w.heap.size _ row rest rfl HK.out.1 ap _ cp rfl rfl hap (HK.out.2.1.old HK.out.2.2.2) (by omega) HK.out.2.2.2.size ?_)
      intro v' w3 hp3 hg3
      have R : Hid (LaidPost w (mrg Pv.wt xs ys) (.returned v') w3) := by
        obtain ⟨k1, k2, k3, k4⟩ := HK.out
        rw [k3] at hp3
        exact ⟨v', rfl, hp3, Fr.below k4 (Fr.grown (r := w.heap.size) hg3) (Nat.le_refl _) (PRow.blk k1) k4.size⟩
      clear hp3 hg3 HK
      go_wp2
      rw [Exit.noGoto_ret]
      go_ret
      exact R.out
end Go.Proofs.Ytjellgkojmgmjaa
