/- The reference's Next. -/
import Derived.Test.YtjellgkojmgmjaaHkA
import Derived.Test.YtjellgkojmgmjaaHjB
import Derived.OwnWalk
namespace Go.Proofs.Ytjellgkojmgmjaa
open Go.RowKit

theorem Sy.irow2 {w : World} {s : Int} {b n c : Nat} {l : List Int} (h : Sy w ⟨s, b, n, c⟩ l) : IRow w (some ⟨b, 0, none⟩) l := by
  obtain ⟨h1, h2, h3, h4, cur, h5, h6⟩ := h
  refine .inr ⟨b, 0, rfl, fun i hi => ?_⟩
  rw [Nat.zero_add]
  simp only at h5
  simp [World.cell?, h5, h6 i hi]
theorem bgB_long {a b : List Int} (h : b.length < a.length) : bgB a b = false := by
  cases e : bgB a b with
  | false => rfl
  | true => have := bgB_len e; omega
theorem bgB_no {a b : List Int} (k : Nat) (hk : k < a.length) (h : a[k]?.getD 0 ≠ b[k]?.getD 0) : bgB a b = false := by
  cases e : bgB a b with
  | false => rfl
  | true =>
    have h1 := (bgB_iff a b).1 e
    refine absurd ?_ h
    conv => lhs; rw [h1]
    rw [List.getElem?_take, if_pos hk]
theorem bgB_yes {a b : List Int} (hl : a.length ≤ b.length) (h : ∀ j, j < a.length → a[j]?.getD 0 = b[j]?.getD 0) : bgB a b = true := by
  rw [bgB_iff]
  apply List.ext_getElem?
  intro j
  rw [List.getElem?_take]
  by_cases hj : j < a.length
  · have := h j hj
    rw [if_pos hj, List.getElem?_eq_getElem hj, List.getElem?_eq_getElem (by omega)] at *
    simpa using this
  · rw [if_neg hj, List.getElem?_eq_none (by omega)]
set_option maxHeartbeats 1600000 in
theorem begins_any (a1 : Option Addr) (n1 c1 : Nat) (l1 : List Int) (a2 : Option Addr) (n2 c2 : Nat) (l2 : List Int) (w : World) (h1 : l1.length = n1) (h2 : l2.length = n2) (r1 : IRow w a1 l1) (r2 : IRow w a2 l2) (hs : n1 ≤ 1000000) (hs2 : n2 ≤ 1000000) :
    Calls Try.prog 38 #[.slice a1 n1 c1, .slice a2 n2 c2] w fun e w' => e = .returned (.bool (bgB l1 l2)) ∧ Below w.heap.size w w' := by
  have HN : Hid (l1.length = n1 ∧ l2.length = n2) := ⟨h1, h2⟩
  have HR : Hid (IRow w a1 l1 ∧ IRow w a2 l2) := ⟨r1, r2⟩
  clear h1 h2 r1 r2
  by_cases hlong : n2 < n1
  · have hz : (n2 : Int) < (n1 : Int) := by omega
    have HO : Hid (bgB l1 l2 = false) := bgB_long (by rw [HN.out.1, HN.out.2]; exact hlong)
    rw [HO.out]
    go_enter Try.func38, Try.ntmps38
    go_wp2
    go_ret
    exact ⟨rfl, Below.refl _ _⟩
  · have hz : ¬ (n2 : Int) < (n1 : Int) := by omega
    go_enter Try.func38, Try.ntmps38
    go_wp2
    go_loopw [13] (fun i wr => ∃ k : Nat, k ≤ n1 ∧ i = .int .i64 k ∧ Below w.heap.size w wr ∧ Hid (∀ j, j < k → l1[j]?.getD 0 = l2[j]?.getD 0)) (fun i _ => n1 - (intOf i).toNat)
    case atStart => exact ⟨0, Nat.zero_le _, rfl, Below.refl _ _, fun j hj => by omega⟩
    case round =>
      obtain ⟨k, hk, rfl, hbel, HA⟩ := hrel
      have HBL : Hid (Below w.heap.size w wr) := hbel
      clear hbel
      by_cases hlt : k < n1
      · obtain ⟨b1, o1, rfl, q1⟩ := HR.out.1.at k (by have := HN.out.1; omega)
        obtain ⟨b2, o2, rfl, q2⟩ := HR.out.2.at k (by have := HN.out.2; omega)
        have hc1 := (HBL.out.cell (p := ⟨b1, o1 + k, none⟩) (cell_lt q1)).trans q1
        have hc2 := (HBL.out.cell (p := ⟨b2, o2 + k, none⟩) (cell_lt q2)).trans q2
        clear q1 q2
        have hk2 : k < n2 := by omega
        have HX : Hid (l1[k]?.getD 0 ≠ l2[k]?.getD 0 → bgB l1 l2 = false) := fun h => bgB_no k (by have := HN.out.1; omega) h
        have HY : Hid (l1[k]?.getD 0 = l2[k]?.getD 0 → ∀ j, j < k + 1 → l1[j]?.getD 0 = l2[j]?.getD 0) := fun h j hj => by
          by_cases hjk : j < k
          · exact HA.out j hjk
          · obtain rfl : j = k := by omega
            exact h
        clear HA
        generalize l1[k]?.getD 0 = x at *
        generalize l2[k]?.getD 0 = y at *
        by_cases hxy : x = y
        · subst hxy
          have HZ : Hid (∀ j, j < k + 1 → l1[j]?.getD 0 = l2[j]?.getD 0) := HY.out rfl
          clear HY HX
          go_wp2
          go_quiet (fail)
          go_wp2
          go_roundw
          case rel => exact ⟨k + 1, by omega, by go_num, below_drewN' HBL.out _, HZ.out⟩
          case measure => simp [intOf]; omega
        · have hxb : (x == y) = false := by simp [hxy]
          have HO : Hid (bgB l1 l2 = false) := HX.out hxy
          clear HY HX
          go_wp2
          go_quiet (fail)
          go_wp2
          go_ret
          exact ⟨by rw [HO.out]; rfl, below_drewN' HBL.out _⟩
      · obtain rfl : k = n1 := by omega
        have HO : Hid (bgB l1 l2 = true) := bgB_yes (by rw [HN.out.1, HN.out.2]; omega) (fun j hj => HA.out j (by rw [HN.out.1] at hj; exact hj))
        clear HA
        go_wp2
        go_ret
        exact ⟨by rw [HO.out]; rfl, HBL.out⟩
theorem find_at {α : Type} [Inhabited α] (p : α → Bool) : ∀ (l : List α) (k : Nat), k < l.length → (∀ j, j < k → p (l[j]?.getD default) = false) → p (l[k]?.getD default) = true → l.find? p = some (l[k]?.getD default)
  | x :: r, 0, _, _, h => by
    rw [List.find?_cons]
    have : p x = true := h
    rw [this]; rfl
  | x :: r, k + 1, hk, h1, h2 => by
    have : p x = false := h1 0 (by omega)
    rw [List.find?_cons, this]
    simp only
    rw [find_at p r k (by simpa using hk) (fun j hj => by simpa using h1 (j + 1) (by omega)) (by simpa using h2)]
    simp
theorem none_at {α : Type} [Inhabited α] (p : α → Bool) (l : List α) (h : ∀ j, j < l.length → p (l[j]?.getD default) = false) : l.find? p = none := by
  rw [List.find?_eq_none]
  intro x hx
  obtain ⟨i, hi, rfl⟩ := List.mem_iff_getElem.1 hx
  have := h i hi
  rw [List.getElem?_eq_getElem hi] at this
  simpa using this
def RefPost (w : World) (o : Int × Nat × Int) (e : Ending) (w' : World) : Prop :=
  e = .returned (.tuple #[.int .i64 o.1, .int .i64 o.2.1, .int .i64 o.2.2]) ∧ Below w.heap.size w w'
set_option maxHeartbeats 3200000 in
set_option maxRecDepth 20000 in
theorem refNext_any (base : Nat) (ad : Option Addr) (cp : Nat) (xs : List Pv) (ps : List Pc) (a : Option Addr) (n c : Nat) (l : List Int) (w : World) (L : Nat) (hLL : xs.length = L) (hq : QRow w base (.slice ad L cp) xs) (hps : PS w xs ps) (hn : l.length = n) (hr : IRow w a l) (hs : n ≤ 1000000) (hsL : L ≤ 1000000) (hp : ∀ p ∈ ps, p.2.length ≤ 1000000) :
    Calls Try.prog 18 #[.slice ad L cp, .slice a n c] w fun e w' => RefPost w (refN ps l) e w' := by
  have HL : Hid (xs.length = L) := hLL
  have HQ : Hid (QRow w base (.slice ad L cp) xs) := hq
  have HPS : Hid (PS w xs ps) := hps
  have HN : Hid (l.length = n) := hn
  have HR : Hid (IRow w a l) := hr
  have HP : Hid (∀ j, (ps[j]?.getD (default : Pc)).2.length ≤ 1000000) := fun j => by
    by_cases hj : j < ps.length
    · rw [List.getElem?_eq_getElem hj]; exact hp _ (List.getElem_mem hj)
    · rw [List.getElem?_eq_none (by omega)]; exact Nat.zero_le _
  have HPL : Hid (ps.length = L) := by show _ = _; rw [← All2.len hps]; exact hLL
  clear hLL hq hps hn hr hp
  go_enter Try.func18, Try.ntmps18
  go_wp2
  go_loopw [13] (fun i wr => ∃ k : Nat, k ≤ L ∧ i = .int .i64 k ∧ Below w.heap.size w wr ∧ Hid (∀ j, j < k → bgB (ps[j]?.getD (default : Pc)).2 l = false)) (fun i _ => L - (intOf i).toNat)
  case atStart => exact ⟨0, Nat.zero_le _, rfl, Below.refl _ _, fun j hj => by omega⟩
  case round =>
    obtain ⟨k, hk, rfl, hbel, HA⟩ := hrel
    have HBL : Hid (Below w.heap.size w wr) := hbel
    clear hbel
    by_cases hlt : k < L
    · have hki : k < xs.length := by rw [HL.out]; exact hlt
      obtain ⟨b, hadb, hbl, hc0, hc1⟩ := HQ.out.at k hki
      have hrp := All2.at HPS.out k hki
      have HPK : Hid ((ps[k]?.getD (default : Pc)).2.length ≤ 1000000) := HP.out k
      have HF : Hid (bgB (ps[k]?.getD (default : Pc)).2 l = true → ps.find? (fun p => bgB p.2 l) = some (ps[k]?.getD (default : Pc))) := fun h => find_at _ ps k (by rw [HPL.out]; exact hlt) HA.out h
      have HG : Hid (bgB (ps[k]?.getD (default : Pc)).2 l = false → ∀ j, j < k + 1 → bgB (ps[j]?.getD (default : Pc)).2 l = false) := fun h j hj => by
        by_cases hjk : j < k
        · exact HA.out j hjk
        · obtain rfl : j = k := by omega
          exact h
      clear HA
      generalize xs[k]?.getD default = x at hrp hc0 hc1
      generalize ps[k]?.getD (default : Pc) = p at *
      obtain ⟨xw, xb, xn, xc⟩ := x
      obtain ⟨hx1, hsy⟩ := hrp
      simp only at hx1 hc0 hc1
      subst hx1
      have hc0' := (HBL.out.cell (p := ⟨b, k * 2, none⟩) hbl).trans hc0
      have hc1' := (HBL.out.cell (p := ⟨b, k * 2 + 1, none⟩) hbl).trans hc1
      subst hadb
      have HB2 : Hid (Below wr.heap.size wr (wr.alloc (.cells #[.int .i64 p.1, .slice (some ⟨xb, 0, none⟩) xn xc] 34))) := (Below.refl _ _).alloc (Nat.le_refl _) _
      have HSY : Hid (Sy wr ⟨p.1, xb, xn, xc⟩ p.2) := hsy.old HBL.out
      have hxn : xn ≤ 1000000 := by have := hsy.1; have := HPK.out; simp only at *; omega
      clear hc0 hc1 hbl hsy
      go_wp2_with fail
      refine (begins_any (some ⟨xb, 0, none⟩) xn xc p.2 a n c l _ HSY.out.1.symm HN.out (Sy.irow2 (HSY.out.old HB2.out)) ((HR.out.old HBL.out).old HB2.out) (by omega) hs).mono ?_
      rintro e w2 ⟨rfl, hb2⟩
      have h5 : w2.heap[wr.heap.size]? = some (.cells #[.int .i64 p.1, .slice (some ⟨xb, 0, none⟩) xn xc] 34 (0, 0)) := (hb2.block _ (by simp)).trans (heap_alloc_new _ _)
      have HB3 : Hid (Below w.heap.size w w2) := HBL.out.trans ((HB2.out.trans (hb2.mono (by simp))).mono HBL.out.size)
      obtain ⟨c0, c1, c2, c3⟩ := two_cells h5
      obtain ⟨M, hM⟩ : ∃ M, wr.heap.size = M := ⟨_, rfl⟩
      rw [hM] at c0 c1 c2 c3 ⊢
      clear h5 hb2 HB2 hM hc0' hc1'
      cases hbg : bgB p.2 l with
      | true =>
        have HO : Hid (refN ps l = (p.1, xn, 0)) := by
          show _ = _
          unfold refN
          rw [HF.out hbg]
          simp only
          rw [← HSY.out.1]
        clear HF HG hbg HSY
        go_wp2
        go_quiet (fail)
        go_wp2
        go_ret3
        show RefPost _ _ _ _
        rw [HO.out]
        exact ⟨rfl, below_drewN' HB3.out _⟩
      | false =>
        have HH := HG.out hbg
        have HH : Hid (∀ j, j < k + 1 → bgB (ps[j]?.getD (default : Pc)).2 l = false) := HH
        clear HF HG hbg HSY
        go_wp2
        go_roundw
        case rel => exact ⟨k + 1, by omega, by go_num, HB3.out, HH.out⟩
        case measure => simp [intOf]; omega
    · have HF : Hid (ps.find? (fun p => bgB p.2 l) = none) := none_at _ ps (fun j hj => HA.out j (by rw [HPL.out] at hj; omega))
      obtain rfl : k = L := by omega
      clear HA
      by_cases hn0 : n = 0
      · have HO : Hid (refN ps l = (0, 0, 2)) := by
          show _ = _
          unfold refN
          rw [HF.out]
          simp only
          rw [if_pos (List.length_eq_zero_iff.1 (by rw [HN.out]; exact hn0))]
        subst hn0
        clear HF
        go_wp2
        go_ret3
        show RefPost _ _ _ _
        rw [HO.out]
        exact ⟨rfl, HBL.out⟩
      · have hnb : ((n : Int) == 0) = false := by simp; omega
        have HO : Hid (refN ps l = if ps.any (fun p => bgB l p.2) then (0, 0, 2) else (0, 0, 6)) := by
          show _ = _
          unfold refN
          rw [HF.out]
          simp only
          rw [if_neg (by intro e; rw [e] at HN; have := HN.out; simp at this; omega)]
        clear HF
        obtain ⟨w7, rfl⟩ : ∃ w7, w7 = wr := ⟨_, rfl⟩
        go_wp2
        go_loopw [32] (fun i wr => ∃ j : Nat, j ≤ k ∧ i = .int .i64 j ∧ Below w.heap.size w wr ∧ Hid (∀ i, i < j → bgB l (ps[i]?.getD (default : Pc)).2 = false)) (fun i _ => k - (intOf i).toNat)
        case atStart => exact ⟨0, Nat.zero_le _, rfl, HBL.out, fun j hj => by omega⟩
        case round =>
          clear HBL
          obtain ⟨j, hj, rfl, hbel, HA⟩ := hrel
          have HBL : Hid (Below w.heap.size w wr) := hbel
          clear hbel
          by_cases hlt2 : j < k
          · have hki : j < xs.length := by rw [HL.out]; exact hlt2
            obtain ⟨b, hadb, hbl, hc0, hc1⟩ := HQ.out.at j hki
            have hrp := All2.at HPS.out j hki
            have HPK : Hid ((ps[j]?.getD (default : Pc)).2.length ≤ 1000000) := HP.out j
            have HF : Hid (bgB l (ps[j]?.getD (default : Pc)).2 = true → (ps.any fun p => bgB l p.2) = true) := fun h => by
              have hjp : j < ps.length := by rw [HPL.out]; exact hlt2
              rw [List.getElem?_eq_getElem hjp] at h
              exact List.any_eq_true.2 ⟨_, List.getElem_mem hjp, h⟩
            have HG : Hid (bgB l (ps[j]?.getD (default : Pc)).2 = false → ∀ i, i < j + 1 → bgB l (ps[i]?.getD (default : Pc)).2 = false) := fun h i hi => by
              by_cases hjk : i < j
              · exact HA.out i hjk
              · obtain rfl : i = j := by omega
                exact h
            clear HA
            generalize xs[j]?.getD default = x at hrp hc0 hc1
            generalize ps[j]?.getD (default : Pc) = p at *
            obtain ⟨xw, xb, xn, xc⟩ := x
            obtain ⟨hx1, hsy⟩ := hrp
            simp only at hx1 hc0 hc1
            subst hx1
            have hc0' := (HBL.out.cell (p := ⟨b, j * 2, none⟩) hbl).trans hc0
            have hc1' := (HBL.out.cell (p := ⟨b, j * 2 + 1, none⟩) hbl).trans hc1
            subst hadb
            have HB2 : Hid (Below wr.heap.size wr (wr.alloc (.cells #[.int .i64 p.1, .slice (some ⟨xb, 0, none⟩) xn xc] 34))) := (Below.refl _ _).alloc (Nat.le_refl _) _
            have HSY : Hid (Sy wr ⟨p.1, xb, xn, xc⟩ p.2) := hsy.old HBL.out
            have hxn : xn ≤ 1000000 := by have := hsy.1; have := HPK.out; simp only at *; omega
            clear hc0 hc1 hbl hsy
            go_wp2_with fail
            refine (begins_any a n c l (some ⟨xb, 0, none⟩) xn xc p.2 _ HN.out HSY.out.1.symm ((HR.out.old HBL.out).old HB2.out) (Sy.irow2 (HSY.out.old HB2.out)) hs (by omega)).mono ?_
            rintro e w2 ⟨rfl, hb2⟩
            have HB3 : Hid (Below w.heap.size w w2) := HBL.out.trans ((HB2.out.trans (hb2.mono (by simp))).mono HBL.out.size)
            clear hb2 HB2 hc0' hc1'
            cases hbg : bgB l p.2 with
            | true =>
              have HO2 : Hid (refN ps l = (0, 0, 2)) := by show _ = _; rw [HO.out, if_pos (HF.out hbg)]
              clear HF HG hbg HSY
              go_wp2
              go_ret3
              show RefPost _ _ _ _
              rw [HO2.out]
              exact ⟨rfl, HB3.out⟩
            | false =>
              have HH : Hid (∀ i, i < j + 1 → bgB l (ps[i]?.getD (default : Pc)).2 = false) := HG.out hbg
              clear HF HG hbg HSY
              go_wp2
              go_roundw
              case rel => exact ⟨j + 1, by omega, by go_num, HB3.out, HH.out⟩
              case measure => simp [intOf]; omega
          · obtain rfl : j = k := by omega
            have hany : (ps.any fun p => bgB l p.2) = false := by
              rw [List.any_eq_false]
              intro p hp hb
              obtain ⟨i, hi, rfl⟩ := List.mem_iff_getElem.1 hp
              have := HA.out i (by rw [HPL.out] at hi; exact hi)
              rw [List.getElem?_eq_getElem hi] at this
              rw [show (some ps[i]).getD default = ps[i] from rfl, hb] at this
              cases this
            have HO2 : Hid (refN ps l = (0, 0, 6)) := by show _ = _; rw [HO.out, hany]; rfl
            clear HA hany
            go_wp2
            go_ret3
            show RefPost _ _ _ _
            rw [HO2.out]
            exact ⟨rfl, HBL.out⟩
end Go.Proofs.Ytjellgkojmgmjaa
