/- What the kinds of a message are: a map of structs of functions. -/
import Derived.Test.YtaibojmaghmfnaaOpC
import Derived.Test.YtaibojmaghmfnaaCrF
import Derived.Maps.OwnSet
import Derived.Laws.EntriesVeiled
namespace Go.Proofs.Ytaibojmaghmfnaa
open Go.RowKit
def fnv (n : Nat) : Value := .func (.func n) #[] #[]
def kd_ask : Value := .agg #[fnv 54, fnv 55, fnv 58, fnv 59]
def kd_offer : Value := .agg #[fnv 60, fnv 61, fnv 62, fnv 63]
def kd_data : Value := .agg #[fnv 64, fnv 65, fnv 67, fnv 68]
def kd_ack : Value := .agg #[fnv 70, fnv 71, fnv 73, fnv 74]
def kd_no : Value := .agg #[fnv 75, fnv 76, fnv 77, fnv 78]
def kd_zero : Value := .agg #[.nilFunc, .nilFunc, .nilFunc, .nilFunc]
set_option maxHeartbeats 400000 in
theorem ask_kd (w : World) : Calls Try.prog 35 #[] w fun e w' => e = .returned kd_ask ∧ Below w.heap.size w w' := by
  go_enter Try.func35, Try.ntmps35
  go_wp2
  refine bodyPost_ret (v := kd_ask) (by simp [results, Try.results35, go_sem, kd_ask, fnv]) rfl ⟨rfl, ?_⟩
  exact (Below.refl _ _).alloc (Nat.le_refl _) _
set_option maxHeartbeats 400000 in
theorem offer_kd (w : World) : Calls Try.prog 36 #[] w fun e w' => e = .returned kd_offer ∧ Below w.heap.size w w' := by
  go_enter Try.func36, Try.ntmps36
  go_wp2
  refine bodyPost_ret (v := kd_offer) (by simp [results, Try.results36, go_sem, kd_offer, fnv]) rfl ⟨rfl, ?_⟩
  exact (Below.refl _ _).alloc (Nat.le_refl _) _
set_option maxHeartbeats 400000 in
theorem data_kd (w : World) : Calls Try.prog 37 #[] w fun e w' => e = .returned kd_data ∧ Below w.heap.size w w' := by
  go_enter Try.func37, Try.ntmps37
  go_wp2
  refine bodyPost_ret (v := kd_data) (by simp [results, Try.results37, go_sem, kd_data, fnv]) rfl ⟨rfl, ?_⟩
  exact (Below.refl _ _).alloc (Nat.le_refl _) _
set_option maxHeartbeats 400000 in
theorem ack_kd (w : World) : Calls Try.prog 38 #[] w fun e w' => e = .returned kd_ack ∧ Below w.heap.size w w' := by
  go_enter Try.func38, Try.ntmps38
  go_wp2
  refine bodyPost_ret (v := kd_ack) (by simp [results, Try.results38, go_sem, kd_ack, fnv]) rfl ⟨rfl, ?_⟩
  exact (Below.refl _ _).alloc (Nat.le_refl _) _
set_option maxHeartbeats 400000 in
theorem no_kd (w : World) : Calls Try.prog 39 #[] w fun e w' => e = .returned kd_no ∧ Below w.heap.size w w' := by
  go_enter Try.func39, Try.ntmps39
  go_wp2
  refine bodyPost_ret (v := kd_no) (by simp [results, Try.results39, go_sem, kd_no, fnv]) rfl ⟨rfl, ?_⟩
  exact (Below.refl _ _).alloc (Nat.le_refl _) _

def cdK (a b c d : Nat) : Int := if a = 54 ∧ b = 55 ∧ c = 58 ∧ d = 59 then 1 else if a = 60 ∧ b = 61 ∧ c = 62 ∧ d = 63 then 2 else if a = 64 ∧ b = 65 ∧ c = 67 ∧ d = 68 then 3 else if a = 70 ∧ b = 71 ∧ c = 73 ∧ d = 74 then 4 else if a = 75 ∧ b = 76 ∧ c = 77 ∧ d = 78 then 5 else 6
/-- Which kind a struct of functions is; 0: none. -/
def kdR (v : Value) : Option (DataW Unit × List MemPlace) := match v with
  | .agg ⟨[.func (.func a) ⟨[]⟩ ⟨[]⟩, .func (.func b) ⟨[]⟩ ⟨[]⟩, .func (.func c) ⟨[]⟩ ⟨[]⟩, .func (.func d) ⟨[]⟩ ⟨[]⟩]⟩ => some (.lit (.int .i64 (cdK a b c d)), [])
  | .agg ⟨[.nilFunc, .nilFunc, .nilFunc, .nilFunc]⟩ => some (.lit (.int .i64 0), [])
  | _ => none
def kdV (i : Int) : Value := if i = 1 then kd_ask else if i = 2 then kd_offer else if i = 3 then kd_data else if i = 4 then kd_ack else if i = 5 then kd_no else kd_zero
theorem kdR_inv {v : Value} {i : Int} {ps : List MemPlace} (hi : 0 ≤ i ∧ i ≤ 5) (h : kdR v = some (.lit (.int .i64 i), ps)) : v = kdV i := by
  unfold kdR at h
  split at h
  · rename_i a b c d
    simp only [Option.some.injEq, Prod.mk.injEq, DataW.lit.injEq, Lit.int.injEq, true_and] at h
    obtain ⟨h, _⟩ := h
    unfold cdK at h
    split at h
    · rename_i e; obtain ⟨rfl, rfl, rfl, rfl⟩ := e; subst h; rfl
    · split at h
      · rename_i e; obtain ⟨rfl, rfl, rfl, rfl⟩ := e; subst h; rfl
      · split at h
        · rename_i e; obtain ⟨rfl, rfl, rfl, rfl⟩ := e; subst h; rfl
        · split at h
          · rename_i e; obtain ⟨rfl, rfl, rfl, rfl⟩ := e; subst h; rfl
          · split at h
            · rename_i e; obtain ⟨rfl, rfl, rfl, rfl⟩ := e; subst h; rfl
            · omega
  · simp only [Option.some.injEq, Prod.mk.injEq, DataW.lit.injEq, Lit.int.injEq, true_and] at h
    obtain ⟨h, _⟩ := h
    subst h
    rfl
  · cases h
theorem kd_keyed : Maps.Keyed Try.prog 3 := Maps.int_keyed Try.underlying3
theorem kd_zeroV (w : World) : (zeroValue 45).run Try.prog w = .ok kd_zero w := by kernel_rfl
theorem wf64k {v : Int} (h1 : -9223372036854775808 ≤ v) (h2 : v ≤ 9223372036854775807) : (Lit.int .i64 v).wf = true := WalkArith.wf_i64 ⟨h1, h2⟩
theorem mkmapK (w : World) : (Instr.makeMap 47 none).run Try.prog w = .ok (.map (some w.heap.size)) (w.alloc (.map #[] 0)) := by
  simp [Instr.makeMap]
/-- Block m is a map of at most n kinds: what stands at a number is f's. -/
def MapI (w : World) (m n : Nat) (f : Int → Option Int) : Prop :=
  ∃ D : DataW Unit, w.ownsMap Try.prog 3 kdR m n D ∧ ∀ k, (Lit.int .i64 k).wf = true → Maps.has D (.int .i64 k) = (f k).isSome ∧ D.atKey (.int .i64 k) (.lit (.int .i64 0)) = .lit (.int .i64 ((f k).getD 0))
theorem MapI.lt {w : World} {m n : Nat} {f : Int → Option Int} (h : MapI w m n f) : m < w.heap.size := by obtain ⟨D, h, _⟩ := h; exact h.lt
theorem MapI.same {w w' : World} {m n : Nat} {f : Int → Option Int} (h : MapI w m n f) (hs : w'.heap[m]? = w.heap[m]?) : MapI w' m n f := by
  obtain ⟨D, ⟨es, clock, hb, r⟩, h2⟩ := h
  exact ⟨D, ⟨es, clock, hs.trans hb, r⟩, h2⟩
theorem MapI.old {w w' : World} {m n : Nat} {f : Int → Option Int} (h : MapI w m n f) (hb : Below w.heap.size w w') : MapI w' m n f := h.same (hb.block m h.lt)
theorem MapI.made (w : World) : MapI (w.alloc (.map #[] 0)) w.heap.size 0 fun _ => none :=
  ⟨.map [], World.ownsMap_made w _ _ _, fun _ _ => ⟨rfl, rfl⟩⟩
theorem MapI.look {w : World} {m n : Nat} {f : Int → Option Int} (h : MapI w m n f) (hf : ∀ k, 0 ≤ (f k).getD 0 ∧ (f k).getD 0 ≤ 5) (k : Int) (hk : (Lit.int .i64 k).wf = true) :
    (Instr.lookup 47 (.map (some m)) (.int .i64 k) true).run Try.prog w = .ok (.tuple #[kdV ((f k).getD 0), .bool (f k).isSome]) w := by
  obtain ⟨D, h1, h2⟩ := h
  obtain ⟨e1, e2⟩ := h2 k hk
  obtain ⟨v, ps, hrun, hv⟩ := h1.look_ok kd_keyed Try.underlying47 (kd_zeroV w) (zd := .lit (.int .i64 0)) (zp := []) rfl (Maps.keyOf_int_mk Try.underlying3 hk)
  rw [e2] at hv
  rw [hrun, e1, kdR_inv (hf k) hv]
theorem MapI.put {w : World} {m n : Nat} {f : Int → Option Int} (h : MapI w m n f) (hn : n < maxLen) (k : Int) (hk : (Lit.int .i64 k).wf = true) (v : Value) (i : Int) (hv : kdR v = some (.lit (.int .i64 i), [])) :
    ∃ w', (Instr.mapUpdate 47 (.map (some m)) (.int .i64 k) v).run Try.prog w = .ok () w' ∧ MapI w' m (n + 1) (fun k' => if k' = k then some i else f k') ∧ w.grownBy w' (some m) := by
  obtain ⟨D, h1, h2⟩ := h
  obtain ⟨w', hrun, hown, hg⟩ := h1.update kd_keyed Try.underlying47 hn (Maps.keyOf_int_mk Try.underlying3 hk) hv
  refine ⟨w', hrun, ⟨_, hown, fun k' hk' => ?_⟩, hg⟩
  have ik : ∀ z, (Lit.int .i64 z).wf = true → WideAt.IsKeyLit (Lit.int .i64 z) := fun z hz => kd_keyed.key (Maps.keyOf_int_mk Try.underlying3 hz)
  by_cases e : k' = k
  · subst e
    simp only [if_true]
    exact ⟨Maps.has_put_same h1.isMap (ik _ hk) _, Maps.atKey_put_same h1.isMap (ik _ hk) _ _⟩
  · have hne : Lit.int .i64 k' ≠ Lit.int .i64 k := fun h => e (by simpa using h)
    simp only [if_neg e]
    rw [Maps.has_put_other hne, Maps.atKey_put_other hne]
    exact h2 k' hk'
/-- The map of all kinds. -/
def KdM (w : World) (b : Nat) : Prop := MapI w b 5 fun k => if k = 5 then some 5 else if k = 4 then some 4 else if k = 3 then some 3 else if k = 2 then some 2 else if k = 1 then some 1 else none
def isKd (k : Int) : Bool := decide (1 ≤ k ∧ k ≤ 5)
theorem KdM.look {w : World} {b : Nat} (h : KdM w b) (k : Int) (hk : (Lit.int .i64 k).wf = true) :
    (Instr.lookup 47 (.map (some b)) (.int .i64 k) true).run Try.prog w = .ok (.tuple #[kdV k, .bool (isKd k)]) w := by
  have e := MapI.look h (fun k => by by_cases a5 : k = 5 <;> by_cases a4 : k = 4 <;> by_cases a3 : k = 3 <;> by_cases a2 : k = 2 <;> by_cases a1 : k = 1 <;> simp [a1, a2, a3, a4, a5]) k hk
  rw [e]
  have h1 : ∀ z : Int, ¬ (1 ≤ z ∧ z ≤ 5) → kdV z = kd_zero := fun z hz => by
    unfold kdV
    rw [if_neg (by omega), if_neg (by omega), if_neg (by omega), if_neg (by omega), if_neg (by omega)]
  by_cases k1 : k = 1
  · subst k1; rfl
  · by_cases k2 : k = 2
    · subst k2; rfl
    · by_cases k3 : k = 3
      · subst k3; rfl
      · by_cases k4 : k = 4
        · subst k4; rfl
        · by_cases k5 : k = 5
          · subst k5; rfl
          · rw [if_neg k5, if_neg k4, if_neg k3, if_neg k2, if_neg k1, h1 k (by omega)]
            have : isKd k = false := decide_eq_false (by omega)
            rw [this]
            rfl

def KdP (w : World) (e : Ending) (w' : World) : Prop := ∃ b, e = .returned (.map (some b)) ∧ KdM w' b ∧ w.heap.size ≤ b ∧ Below w.heap.size w w'
set_option maxHeartbeats 1600000 in
theorem kinds_any (w : World) : Calls Try.prog 17 #[] w fun e w' => KdP w e w' := by
  obtain ⟨b, hb⟩ : ∃ b, b = w.heap.size := ⟨_, rfl⟩
  have hmk := mkmapK w
  have M0 := MapI.made w
  have B0 : Below w.heap.size w (w.alloc (.map #[] 0)) := (Below.refl _ _).alloc (Nat.le_refl _) _
  rw [← hb] at hmk M0 B0
  generalize w.alloc (.map #[] 0) = w0 at *
  have HM0 : Hid (MapI w0 b 0 fun _ => none) := M0
  have HB0 : Hid (Below b w w0) := B0
  have Hb : Hid (b = w.heap.size) := hb
  clear M0 B0 hb
  go_enter Try.func17, Try.ntmps17
  go_wp2_with fail
  refine (ask_kd _).mono ?_
  rintro e v1 ⟨rfl, q1⟩
  obtain ⟨w1, mu1, m1, g1⟩ := (HM0.out.old q1).put (by unfold maxLen; omega) 1 (by decide) kd_ask 1 rfl
  have HB1 : Hid (Below b w w1) := (HB0.out.trans (q1.mono (by have := HM0.out.lt; omega))).grown g1 (by have := HM0.out.lt; have := q1.size; omega) (fun j hj => by cases hj; exact Nat.le_refl _)
  have HM1 : Hid (MapI w1 b 1 _) := m1
  clear q1 m1 g1 HM0 HB0
  go_wp2_with fail
  refine (offer_kd _).mono ?_
  rintro e v2 ⟨rfl, q2⟩
  obtain ⟨w2, mu2, m2, g2⟩ := (HM1.out.old q2).put (by unfold maxLen; omega) 2 (by decide) kd_offer 2 rfl
  have HB2 : Hid (Below b w w2) := (HB1.out.trans (q2.mono (by have := HM1.out.lt; omega))).grown g2 (by have := HM1.out.lt; have := q2.size; omega) (fun j hj => by cases hj; exact Nat.le_refl _)
  have HM2 : Hid (MapI w2 b 2 _) := m2
  clear q2 m2 g2 HM1 HB1
  go_wp2_with fail
  refine (data_kd _).mono ?_
  rintro e v3 ⟨rfl, q3⟩
  obtain ⟨w3, mu3, m3, g3⟩ := (HM2.out.old q3).put (by unfold maxLen; omega) 3 (by decide) kd_data 3 rfl
  have HB3 : Hid (Below b w w3) := (HB2.out.trans (q3.mono (by have := HM2.out.lt; omega))).grown g3 (by have := HM2.out.lt; have := q3.size; omega) (fun j hj => by cases hj; exact Nat.le_refl _)
  have HM3 : Hid (MapI w3 b 3 _) := m3
  clear q3 m3 g3 HM2 HB2
  go_wp2_with fail
  refine (ack_kd _).mono ?_
  rintro e v4 ⟨rfl, q4⟩
  obtain ⟨w4, mu4, m4, g4⟩ := (HM3.out.old q4).put (by unfold maxLen; omega) 4 (by decide) kd_ack 4 rfl
  have HB4 : Hid (Below b w w4) := (HB3.out.trans (q4.mono (by have := HM3.out.lt; omega))).grown g4 (by have := HM3.out.lt; have := q4.size; omega) (fun j hj => by cases hj; exact Nat.le_refl _)
  have HM4 : Hid (MapI w4 b 4 _) := m4
  clear q4 m4 g4 HM3 HB3
  go_wp2_with fail
  refine (no_kd _).mono ?_
  rintro e v5 ⟨rfl, q5⟩
  obtain ⟨w5, mu5, m5, g5⟩ := (HM4.out.old q5).put (by unfold maxLen; omega) 5 (by decide) kd_no 5 rfl
  have HB5 : Hid (Below b w w5) := (HB4.out.trans (q5.mono (by have := HM4.out.lt; omega))).grown g5 (by have := HM4.out.lt; have := q5.size; omega) (fun j hj => by cases hj; exact Nat.le_refl _)
  have HM5 : Hid (MapI w5 b 5 _) := m5
  clear q5 m5 g5 HM4 HB4
  go_wp2_with fail
  go_ret
  exact ⟨b, rfl, HM5.out, by rw [Hb.out]; exact Nat.le_refl _, by rw [← Hb.out]; exact HB5.out⟩
end Go.Proofs.Ytaibojmaghmfnaa
