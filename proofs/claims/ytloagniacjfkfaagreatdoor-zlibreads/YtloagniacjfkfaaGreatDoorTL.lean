/- Joined: Zo1 Zo2. -/
import Derived.Test.YtloagniacjfkfaaGreatDoorTJ
import Derived.Test.YtloagniacjfkfaaGreatDoorSB
import Derived.Test.YtloagniacjfkfaaGreatDoorTK
/- zlib: a number of bytes; what wrapped bytes tell by the document, beside the machine. -/
namespace Go.Proofs.YtloagniacjfkfaaGreatDoor
open Go.RowKit
set_option maxHeartbeats 400000 in
theorem numberZ_any (a : Option Addr) (n cap : Nat) (zs : List Int) (w : World) (hn : zs.length = n) (h4 : n ≤ 4) (hb : Bytes zs) (hr : Row w a zs) :
    Calls Tryz.prog 27 #[.slice a n cap] w fun e w' => e = .returned (.int .i64 (bigN zs)) ∧ w' = w := by
  have HN : Hid (zs.length = n) := hn
  have HB : Hid (Bytes zs) := hb
  rcases hr with rfl | ⟨b, off, rfl, hc⟩
  · simp at hn
    subst hn
    clear h4 hb
    go_enter Tryz.func27, Tryz.ntmps27
    go_wp2
    go_loop [3, 4] (fun v i => v = .int .i64 0 ∧ i = .int .i64 0) (fun _ _ => 0)
    case atStart => exact ⟨rfl, rfl⟩
    case round =>
      obtain ⟨rfl, rfl⟩ := hrel
      go_wp2
      go_ret
      exact ⟨ret_int rfl, rfl⟩
  · clear hn hb
    go_enter Tryz.func27, Tryz.ntmps27
    go_wp2
    go_loop [3, 4] (fun v i => ∃ k : Nat, k ≤ n ∧ i = .int .i64 k ∧ v = .int .i64 (bigN (zs.take k))) (fun _ i => n - (intOf i).toNat)
    case atStart => exact ⟨0, Nat.zero_le _, rfl, rfl⟩
    case round =>
      obtain ⟨k, hk, rfl, rfl⟩ := hrel
      have hbd := bigN_le (HB.out.take k) (by simp; omega)
      by_cases hlt : k < n
      · have hck := hc k (by have := HN.out; omega)
        have hzk := HB.out.at k
        have HS : Hid (bigN (zs.take (k + 1)) = bigN (zs.take k) * 256 + (zs[k]?.getD 0)) := by rw [take_snoc zs k (by have := HN.out; omega), bigN_snoc]; trivial
        go_wp2
        go_round
        case rel => exact ⟨k + 1, by omega, by go_num, by rw [HS.out]; go_num⟩
        case measure => simp [intOf]; omega
      · go_wp2
        go_ret
        exact ⟨ret_int (by rw [List.take_of_length_le (by have := HN.out; omega)]), rfl⟩
theorem zh_iff {zs : List Int} (hb : Bytes zs) (h2 : 2 ≤ zs.length) : zh zs = true ↔ ¬ ((zs[0]?.getD 0 : Int) % 16 ≠ 8 ∨ 7 < (zs[0]?.getD 0 : Int) / 16 ∨ (zs[1]?.getD 0 : Int) / 32 % 2 = 1 ∨ (256 * (zs[0]?.getD 0 : Int) + (zs[1]?.getD 0 : Int)) % 31 ≠ 0) := by
  match zs, h2 with
  | a :: c :: r, _ =>
    have ha := hb a (by simp)
    have hc := hb c (by simp)
    have hbig : bigN ((a :: c :: r).take 2) = 256 * a + c := by
      simp [bigN]
      omega
    unfold zh zhd
    rw [hbig]
    simp only [List.getElem?_cons_zero, List.getElem?_cons_succ, Option.getD_some, Bool.and_eq_true, decide_eq_true_eq]
    obtain ⟨A, rfl⟩ : ∃ A : Nat, a = (A : Int) := ⟨a.toNat, by omega⟩
    obtain ⟨C, rfl⟩ : ∃ C : Nat, c = (C : Int) := ⟨c.toNat, by omega⟩
    have e0 : (256 * (A : Int) + C).toNat = 256 * A + C := by omega
    rw [e0]
    have e1 : (256 * A + C) / 256 = A := by omega
    have e2 : (256 * A + C) / 4096 = A / 16 := by omega
    have e3 : (256 * A + C) / 32 % 2 = C / 32 % 2 := by omega
    rw [e1, e2, e3]
    clear e0 e1 e2 e3 hbig
    generalize hV : 256 * A + C = V
    have hVi : 256 * (A : Int) + C = (V : Int) := by omega
    rw [hVi]
    clear hVi hV
    omega
/-- What the document's run tells, beside the machine's. -/
structure ZCmp (lim : Nat) (zs out rest : List Int) (E : Int) (dn : Bool) : Prop where
  cmp : ∀ z, ZSays lim zs z → z.out = out ∧ z.er = (if E = 2 then 0 else E) ∧ (z.k == 3) = dn ∧ z.rest = rest
theorem zcmp_short {lim : Nat} {zs : List Int} (h : zs.length < 2) : ZCmp lim zs [] [] 2 false := ⟨fun z hz => by rw [hz.1 h]; exact ⟨rfl, rfl, rfl, rfl⟩⟩
theorem zcmp_form {lim : Nat} {zs : List Int} (h2 : 2 ≤ zs.length) (hh : zh zs = false) : ZCmp lim zs [] [] 3 false := ⟨fun z hz => by rw [hz.2.1 h2 hh]; exact ⟨rfl, rfl, rfl, rfl⟩⟩
theorem zcmp_no {lim : Nat} {zs out B : List Int} {E : Int} (h2 : 2 ≤ zs.length) (hh : zh zs = true) (h : OfE lim (bitsL (zs.drop 2)) out B E false) (hE : E ≠ 0) : ZCmp lim zs out [] E false := by
  refine ⟨fun z hz => ?_⟩
  by_cases hE2 : E = 2
  · subst hE2
    obtain ⟨s1, l1, hn, ho, hr⟩ := h.2.1 rfl rfl
    rcases hz.2.2 h2 hh with ⟨o, ⟨s, x, a1, a2, a3⟩, e⟩ | ⟨er, o, a3, e⟩ | ⟨o, zs', ⟨s, a1, a2, a4, a3⟩, _⟩
    · have := a3.det hr
      simp only [Og.stop.injEq] at this
      obtain ⟨rfl, _⟩ := this
      rw [e]
      exact ⟨a2.symm.trans ho, rfl, rfl, rfl⟩
    · have := a3.det hr
      cases this
    · have := a3.det hr
      simp only [Og.stop.injEq] at this
      obtain ⟨rfl, _⟩ := this
      omega
  · have hr := h.2.2 rfl hE hE2
    rcases hz.2.2 h2 hh with ⟨o, ⟨s, x, a1, a2, a3⟩, e⟩ | ⟨er, o, a3, e⟩ | ⟨o, zs', ⟨s, a1, a2, a4, a3⟩, _⟩
    · have := a3.det hr
      cases this
    · have := a3.det hr
      simp only [Og.fail.injEq] at this
      obtain ⟨rfl, rfl⟩ := this
      rw [e, if_neg hE2]
      exact ⟨rfl, rfl, rfl, rfl⟩
    · have := a3.det hr
      cases this
theorem zcmp_foot {lim : Nat} {zs out B rs : List Int} {E : Int} (h2 : 2 ≤ zs.length) (hh : zh zs = true) (h : OfE lim (bitsL (zs.drop 2)) out B E true) (hrs : Bytes rs) (hB : bitsL rs = B.drop (B.length % 8)) :
    (rs.length < 4 → ZCmp lim zs out [] 2 false) ∧ (4 ≤ rs.length → bigN (rs.take 4) = adlM 1 out → ZCmp lim zs out (rs.drop 4) 0 true) ∧ (4 ≤ rs.length → bigN (rs.take 4) ≠ adlM 1 out → ZCmp lim zs out [] 4 false) ∧ E = 0 := by
  obtain ⟨hE, s1, h11, ho, hr⟩ := h.1 rfl
  rw [← hB] at hr
  have key : ∀ z, ZSays lim zs z → (rs.length < 4 → z = ⟨2, out, 0, []⟩) ∧ (4 ≤ rs.length → bigN (rs.take 4) = adlM 1 out → z = ⟨3, out, 0, rs.drop 4⟩) ∧ (4 ≤ rs.length → bigN (rs.take 4) ≠ adlM 1 out → z = ⟨4, out, 4, []⟩) := by
    intro z hz
    rcases hz.2.2 h2 hh with ⟨o, ⟨s, x, a1, a2, a3⟩, e⟩ | ⟨er, o, a3, e⟩ | ⟨o, zs', ⟨s, a1, a2, a4, a3⟩, e1, e2, e3⟩
    · have := a3.det hr
      simp only [Og.stop.injEq] at this
      obtain ⟨rfl, _⟩ := this
      omega
    · have := a3.det hr
      cases this
    · have := a3.det hr
      simp only [Og.stop.injEq] at this
      obtain ⟨rfl, hb⟩ := this
      obtain rfl := bitsL_one a4 hrs hb
      obtain rfl : o = out := a2.symm.trans ho
      exact ⟨e1, e2, e3⟩
  refine ⟨fun h4 => ⟨fun z hz => ?_⟩, fun h4 h5 => ⟨fun z hz => ?_⟩, fun h4 h5 => ⟨fun z hz => ?_⟩, hE⟩
  · rw [(key z hz).1 h4]; exact ⟨rfl, rfl, rfl, rfl⟩
  · rw [(key z hz).2.1 h4 h5]; exact ⟨rfl, rfl, rfl, rfl⟩
  · rw [(key z hz).2.2 h4 h5]; exact ⟨rfl, rfl, rfl, rfl⟩
end Go.Proofs.YtloagniacjfkfaaGreatDoor
/- zlib: what wrapped bytes tell by the document: the run's struct in memory. -/
namespace Go.Proofs.YtloagniacjfkfaaGreatDoor
open Go.RowKit
/-- The document's run at block r. -/
def RZ (w : World) (r : Nat) (vo vr : Value) (E : Int) (dn : Bool) : Prop := w.heap[r]? = some (.cells #[vo, vr, .int .i64 E, .bool dn] 30 (0, 0))
section
variable {w : World} {r : Nat} {vo vr : Value} {E : Int} {dn : Bool}
theorem RZ.cells (h : RZ w r vo vr E dn) : w.cell? ⟨r, 0, none⟩ = some vo ∧ w.cell? ⟨r, 1, none⟩ = some vr ∧ w.cell? ⟨r, 2, none⟩ = some (.int .i64 E) ∧ w.cell? ⟨r, 3, none⟩ = some (.bool dn) ∧ ∀ j, w.frozen? ⟨r, j, none⟩ = false := by
  unfold RZ at h
  refine ⟨?_, ?_, ?_, ?_, fun j => ?_⟩ <;> simp [World.cell?, World.frozen?, h]
theorem RZ.set0 (h : RZ w r vo vr E dn) (x : Value) : RZ (w.setCell ⟨r, 0, none⟩ x) r x vr E dn := by
  unfold RZ at h ⊢; rw [heap_setCell_same w r 0 _ _ _ h]; rfl
theorem RZ.set1 (h : RZ w r vo vr E dn) (x : Value) : RZ (w.setCell ⟨r, 1, none⟩ x) r vo x E dn := by
  unfold RZ at h ⊢; rw [heap_setCell_same w r 1 _ _ _ h]; rfl
theorem RZ.set2 (h : RZ w r vo vr E dn) (x : Int) : RZ (w.setCell ⟨r, 2, none⟩ (.int .i64 x)) r vo vr x dn := by
  unfold RZ at h ⊢; rw [heap_setCell_same w r 2 _ _ _ h]; rfl
theorem RZ.set3 (h : RZ w r vo vr E dn) (x : Bool) : RZ (w.setCell ⟨r, 3, none⟩ (.bool x)) r vo vr E x := by
  unfold RZ at h ⊢; rw [heap_setCell_same w r 3 _ _ _ h]; rfl
theorem RZ.same {w' : World} (h : RZ w r vo vr E dn) (hs : w'.heap[r]? = w.heap[r]?) : RZ w' r vo vr E dn := hs.trans h
theorem RZ.lt (h : RZ w r vo vr E dn) : r < w.heap.size := lt_of_block h
theorem RZ.ne (h : RZ w r vo vr E dn) {e : TypeId} {v' : Value} {g : Option Nat} {xs : List Value} (hs : Sl w e v' g xs) (he : e ≠ 30) : g ≠ some r := by
  intro hk
  obtain ⟨c, e2⟩ := hs.tag r hk
  unfold RZ at h
  rw [h] at e2
  simp only [Option.some.injEq, Obj.cells.injEq] at e2
  exact he e2.2.1.symm
theorem RZ.row {a1 a2 : Option Addr} {n1 n2 c1 c2 : Nat} (h : RZ w r (.slice a1 n1 c1) (.slice a2 n2 c2) E dn) {a : Option Addr} {zs : List Int} (hr : Row w a zs) (j : Nat) (v : Value) : Row (w.setCell ⟨r, j, none⟩ v) a zs := by
  rcases hr with rfl | ⟨b, off, rfl, hc⟩
  · exact .inl rfl
  · by_cases hb : b = r
    · subst hb
      cases zs with
      | nil => exact .inl rfl
      | cons z zs =>
        have h0 := hc 0 (by simp)
        unfold RZ at h
        exfalso
        simp only [World.cell?, h] at h0
        rcases off with _ | _ | _ | _ | off <;> simp at h0
    · refine .inr ⟨b, off, rfl, fun i hi => ?_⟩
      rw [← hc i hi]
      simp only [World.cell?]
      rw [Below.heap_setCell _ _ _ _ hb]
end
def ZofP (w : World) (lim : Nat) (bs : List Int) (e : Ending) (w' : World) : Prop :=
  ∃ vo go ar cr out rest E dn, e = .returned (.agg #[vo, .slice ar rest.length cr, .int .i64 E, .bool dn]) ∧ Sl w' 5 vo go (vals out) ∧ Row w' ar rest ∧ Below w.heap.size w w' ∧ ZCmp lim bs out rest E dn
theorem zof_end {w wx : World} {lim : Nat} {bs out rest : List Int} {vo : Value} {go : Option Nat} {ar : Option Addr} {cr : Nat} {E : Int} {dn : Bool} (h0 : RZ wx w.heap.size (.slice none 0 0) (.slice none 0 0) 0 false) (hb : Below w.heap.size w wx) (hso : Sl wx 5 vo go (vals out)) (hrr : Row wx ar rest) (hz : ZCmp lim bs out rest E dn) :
    RZ ((((wx.setCell ⟨w.heap.size, 0, none⟩ vo).setCell ⟨w.heap.size, 1, none⟩ (.slice ar rest.length cr)).setCell ⟨w.heap.size, 2, none⟩ (.int .i64 E)).setCell ⟨w.heap.size, 3, none⟩ (.bool dn)) w.heap.size vo (.slice ar rest.length cr) E dn ∧
    ZofP w lim bs (.returned (.agg #[vo, .slice ar rest.length cr, .int .i64 E, .bool dn])) ((((wx.setCell ⟨w.heap.size, 0, none⟩ vo).setCell ⟨w.heap.size, 1, none⟩ (.slice ar rest.length cr)).setCell ⟨w.heap.size, 2, none⟩ (.int .i64 E)).setCell ⟨w.heap.size, 3, none⟩ (.bool dn)) := by
  obtain ⟨ao, co, rfl, _⟩ := hso.shape
  have hne := h0.ne hso (by decide)
  refine ⟨(((h0.set0 _).set1 _).set2 _).set3 _, _, go, ar, cr, out, rest, E, dn, rfl, hso.same fun k hk => ?_, (((h0.set0 _).set1 _).set2 _).row (((h0.set0 _).set1 _).row ((h0.set0 _).row (h0.row hrr 0 _) 1 _) 2 _) 3 _, (((hb.setCell (p := ⟨w.heap.size, 0, none⟩) (Nat.le_refl _) _).setCell (p := ⟨w.heap.size, 1, none⟩) (Nat.le_refl _) _).setCell (p := ⟨w.heap.size, 2, none⟩) (Nat.le_refl _) _).setCell (p := ⟨w.heap.size, 3, none⟩) (Nat.le_refl _) _, hz⟩
  have hkr : k ≠ w.heap.size := fun e => hne (by rw [hk, e])
  rw [Below.heap_setCell _ _ _ _ hkr, Below.heap_setCell _ _ _ _ hkr, Below.heap_setCell _ _ _ _ hkr, Below.heap_setCell _ _ _ _ hkr]
theorem results_cell1 {fn : Func} {p : Tmp} {ty : TypeId} (h : fn.results = #[.cell p ty]) (tmps : Array Value) (P : Program) (w : World) :
    (results fn tmps).run P w = ((asAddr (tmps.getD p undef)).run P w).andThen fun a w₁ => (loadVar ty a).run P w₁ := by
  simp only [results, h]
  simp [Sem.run_bind]
end Go.Proofs.YtloagniacjfkfaaGreatDoor
