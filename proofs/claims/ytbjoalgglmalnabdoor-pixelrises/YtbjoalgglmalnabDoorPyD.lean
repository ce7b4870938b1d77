/- Which tables go with which kind of colours: the program. -/
import Derived.Test.YtbjoalgglmalnabDoorPyC
namespace Go.Proofs.YtbjoalgglmalnabDoor
open Go.RowKit
/-- A raster's nine cells. -/
structure Rs where
  W : Int
  H : Int
  C : Int
  D : Int
  L : Bool
  ta : Option Addr
  tn : Nat
  tc : Nat
  aa : Option Addr
  an : Nat
  ac : Nat
  ca : Option Addr
  cn : Nat
  cc : Nat
  sa : Option Addr
  sn : Nat
  sc : Nat
def Rs.c9 (r : Rs) : Array Value := #[.int .i64 r.W, .int .i64 r.H, .int .i64 r.C, .int .i64 r.D, .bool r.L, .slice r.ta r.tn r.tc, .slice r.aa r.an r.ac, .slice r.ca r.cn r.cc, .slice r.sa r.sn r.sc]
def Rs.V (r : Rs) : Value := .agg r.c9
/-- What is known of a raster: its numbers in memory. -/
structure RsM (w : World) (r : Rs) (A K S : List Int) : Prop where
  a : IRow w r.aa A
  an : A.length = r.an
  k : IRow w r.ca K
  kn : K.length = r.cn
  s : IRow w r.sa S
  sn : S.length = r.sn
  bd : r.an ≤ 17592186044416 ∧ r.cn ≤ 17592186044416 ∧ r.sn ≤ 17592186044416 ∧ r.tn ≤ 140737488351232
theorem RsM.old {w w' : World} {r : Rs} {A K S : List Int} (h : RsM w r A K S) (hb : Below w.heap.size w w') : RsM w' r A K S := ⟨h.a.old hb, h.an, h.k.old hb, h.kn, h.s.old hb, h.sn, h.bd⟩
abbrev mhN (C D : Int) (tn : Nat) (A K : List Int) : Prop :=
  if C = 3 then 1 ≤ tn ∧ (tn : Int) ≤ 2 ^ D.toNat ∧ A.length ≤ tn ∧ allB 256 A ∧ K.length = 0
  else if C = 0 ∨ C = 2 then tn = 0 ∧ A.length = 0 ∧ (K.length = 0 ∨ (K.length : Int) = spN C) ∧ allB (2 ^ D.toNat) K
  else tn = 0 ∧ A.length = 0 ∧ K.length = 0
theorem heap_alloc_newX (w : World) (o : Obj) : (w.alloc o).heap[w.heap.size]? = some o := by show (w.heap.push o)[w.heap.size]? = some o; simp
theorem shl_DX {D : Int} (h : 1 ≤ D ∧ D ≤ 16) : wrap64 (2 ^ D.toNat) = 2 ^ D.toNat := by
  obtain ⟨k, rfl⟩ := Int.eq_ofNat_of_zero_le (show 0 ≤ D by omega)
  have hk : (2 : Nat) ^ k ≤ 2 ^ 16 := Nat.pow_le_pow_right (by omega) (by omega)
  have e : (2 : Int) ^ ((k : Int)).toNat = ((2 ^ k : Nat) : Int) := by rw [Int.toNat_natCast, Int.natCast_pow]; rfl
  rw [e]
  unfold wrap64
  generalize (2 : Nat) ^ k = q at *
  omega
/-- The block of a boxed raster. -/
def QR (w : World) (c : Array Value) (w' : World) : Prop := Below w.heap.size w w' ∧ w'.heap[w.heap.size]? = some (.cells c 30 (0, 0))
theorem QR.box (w : World) (c : Array Value) : QR w c (w.alloc (.cells c 30)) := ⟨(Below.refl _ w).alloc (Nat.le_refl _) _, heap_alloc_newX w _⟩
theorem QR.old {w : World} {c : Array Value} {w1 w2 : World} (h : QR w c w1) (hb : Below w1.heap.size w1 w2) : QR w c w2 := ⟨h.1.trans (hb.mono h.1.size), (hb.block _ (lt_of_block h.2)).trans h.2⟩
theorem nine_cells {w : World} {b : Nat} {v0 v1 v2 v3 v4 v5 v6 v7 v8 : Value} {t : TypeId} (h : w.heap[b]? = some (.cells #[v0, v1, v2, v3, v4, v5, v6, v7, v8] t (0, 0))) : w.cell? ⟨b, 0, none⟩ = some v0 ∧ w.cell? ⟨b, 1, none⟩ = some v1 ∧ w.cell? ⟨b, 2, none⟩ = some v2 ∧ w.cell? ⟨b, 3, none⟩ = some v3 ∧ w.cell? ⟨b, 4, none⟩ = some v4 ∧ w.cell? ⟨b, 5, none⟩ = some v5 ∧ w.cell? ⟨b, 6, none⟩ = some v6 ∧ w.cell? ⟨b, 7, none⟩ = some v7 ∧ w.cell? ⟨b, 8, none⟩ = some v8 := by
  refine ⟨?_, ?_, ?_, ?_, ?_, ?_, ?_, ?_, ?_⟩ <;> simp [World.cell?, h]
set_option maxHeartbeats 3200000 in
theorem mayHave3 (r : Rs) (A K S : List Int) (w : World) (hm : RsM w r A K S) (hC : r.C = 3) (hD : 1 ≤ r.D ∧ r.D ≤ 16) : Calls Tryd.prog 15 #[r.V] w fun e w' => e = .returned (.bool (decide (mhN r.C r.D r.tn A K))) ∧ Below w.heap.size w w' := by
  have HQ : Hid (QR w r.c9 _) := QR.box w r.c9
  have CA := allBelow_any 256 r.aa r.an r.ac A _ hm.an (hm.a.old HQ.out.1) (by have := hm.bd; omega)
  have e : mhN r.C r.D r.tn A K ↔ (1 ≤ r.tn ∧ (r.tn : Int) ≤ 2 ^ r.D.toNat ∧ r.an ≤ r.tn ∧ allB 256 A ∧ r.cn = 0) := by
    unfold mhN; rw [if_pos hC, hm.an, hm.kn]
  have e2 : decide (mhN r.C r.D r.tn A K) = decide (1 ≤ r.tn ∧ (r.tn : Int) ≤ 2 ^ r.D.toNat ∧ r.an ≤ r.tn ∧ allB 256 A ∧ r.cn = 0) := decide_eq_decide.2 e
  rw [e2]
  clear e e2
  have hsh : wrap64 (2 ^ r.D.toNat) = 2 ^ r.D.toNat := shl_DX hD
  have bd := hm.bd
  clear hm
  obtain ⟨W, H, C, D, L, ta, tn, tc, aa, an, ac, ca, cn, cc, sa, sn, sc⟩ := r
  unfold Rs.V
  unfold Rs.c9 at *
  simp only at *
  subst hC
  obtain ⟨P, hP⟩ : ∃ P, (2 : Int) ^ D.toNat = P := ⟨_, rfl⟩
  rw [hP] at hsh ⊢
  obtain ⟨D1, D2⟩ := hD
  by_cases h1 : 1 ≤ tn
  · by_cases h2 : (tn : Int) ≤ P
    · by_cases h3 : an ≤ tn
      · have h3i : (an : Int) ≤ (tn : Int) := by omega
        by_cases h4 : allB 256 A
        · rw [decide_eq_true h4] at CA
          have e : decide (1 ≤ tn ∧ (tn : Int) ≤ P ∧ an ≤ tn ∧ allB 256 A ∧ cn = 0) = ((cn : Int) == 0) := by
            by_cases q : cn = 0
            · subst q; rw [decide_eq_true (by exact ⟨h1, h2, h3, h4, rfl⟩)]; rfl
            · rw [decide_eq_false (fun h => q h.2.2.2.2)]; symm; simp; omega
          rw [e]
          clear e
          go_enter Tryd.func15, Tryd.ntmps15
          go_wp2_with fail
          refine CA.mono ?_
          rintro e w1 ⟨rfl, rfl⟩
          go_wp2
          go_ret
          exact ⟨rfl, HQ.out.1⟩
        · rw [decide_eq_false h4] at CA
          rw [decide_eq_false (fun h => h4 h.2.2.2.1)]
          go_enter Tryd.func15, Tryd.ntmps15
          go_wp2_with fail
          refine CA.mono ?_
          rintro e w1 ⟨rfl, rfl⟩
          go_wp2
          go_ret
          exact ⟨rfl, HQ.out.1⟩
      · rw [decide_eq_false (fun h => h3 h.2.2.1)]
        have h3i : ¬ (an : Int) ≤ (tn : Int) := by omega
        clear CA
        go_enter Tryd.func15, Tryd.ntmps15
        go_wp2
        go_ret
        exact ⟨rfl, HQ.out.1⟩
    · rw [decide_eq_false (fun h => h2 h.2.1)]
      clear CA
      go_enter Tryd.func15, Tryd.ntmps15
      go_wp2
      go_ret
      exact ⟨rfl, HQ.out.1⟩
  · rw [decide_eq_false (fun h => h1 h.1)]
    obtain rfl : tn = 0 := by omega
    clear CA
    go_enter Tryd.func15, Tryd.ntmps15
    go_wp2
    go_ret
    exact ⟨rfl, HQ.out.1⟩
end Go.Proofs.YtbjoalgglmalnabDoor
