/- Joined: KdN Rr6. -/
import Derived.Test.YtloagniacjfkfaaGreatDoorQM
import Derived.Test.YtloagniacjfkfaaGreatDoorTJ
import Derived.Test.YtloagniacjfkfaaGreatDoorTK
import Derived.Test.YtloagniacjfkfaaGreatDoorQP
/- Bits of two rows of bytes; what stands behind. -/
namespace Go.Proofs.YtloagniacjfkfaaGreatDoor
open Go.RowKit
theorem bitsL_inj : ∀ {l m : List Int}, Bytes l → Bytes m → bitsL l = bitsL m → l = m
  | [], [], _, _, _ => rfl
  | [], y :: m, _, _, h => by have := congrArg List.length h; rw [bitsL_len, bitsL_len] at this; simp at this
  | x :: l, [], _, _, h => by have := congrArg List.length h; rw [bitsL_len, bitsL_len] at this; simp at this
  | x :: l, y :: m, hl, hm, h => by
    rw [bitsL_cons, bitsL_cons] at h
    obtain ⟨h1, h2⟩ := List.append_inj h (by rw [lowL_len, lowL_len])
    have e := congrArg binN h1
    rw [binN_lowL, binN_lowL] at e
    have b1 := hl x (by simp)
    have b2 := hm y (by simp)
    have e8 : (2 : Int) ^ 8 = 256 := by decide
    rw [e8] at e
    have exy : x = y := by omega
    rw [exy, bitsL_inj (fun z hz => hl z (by simp [hz])) (fun z hz => hm z (by simp [hz])) h2]
theorem Og.rest_one {r : Og} {rs rs' : List Int} (h : r.rest rs) (h' : r.rest rs') : rs = rs' := by
  cases r with
  | stop s l =>
    have h : if s.now = 11 then Bytes rs ∧ l = bitsL rs else rs = [] := h
    have h' : if s.now = 11 then Bytes rs' ∧ l = bitsL rs' else rs' = [] := h'
    by_cases h11 : s.now = 11
    · rw [if_pos h11] at h h'
      exact bitsL_inj h.1 h'.1 (h.2.symm.trans h'.2)
    · rw [if_neg h11] at h h'
      rw [h, h']
  | fail er out => exact Eq.trans h (Eq.symm h')
end Go.Proofs.YtloagniacjfkfaaGreatDoor
/- The run and the decoder, compared; a decoder beside bytes that change. -/
namespace Go.Proofs.YtloagniacjfkfaaGreatDoor
open Go.RowKit
theorem of_cmp {lim : Nat} {l B out : List Int} {E : Int} {dn : Bool} {r : Og} (hr : Runs lim St.start l r) (h : OfE lim l out B E dn) (h0 : dn = false → E ≠ 0) :
    r.out = out ∧ r.err = (if E = 2 then 0 else E) ∧ r.ended = dn ∧ ∀ rs zs, r.rest rs → (dn = false → zs = []) → (dn = true → Bytes zs ∧ bitsL zs = B.drop (B.length % 8)) → rs = zs := by
  cases dn with
  | true =>
    obtain ⟨rfl, s1, h11, ho, hs⟩ := h.1 rfl
    obtain rfl := hr.det hs
    refine ⟨ho, rfl, by simp [Og.ended, h11], fun rs zs h1 _ h2 => ?_⟩
    obtain ⟨b1, b2⟩ := h2 rfl
    have h1 : if s1.now = 11 then Bytes rs ∧ B.drop (B.length % 8) = bitsL rs else rs = [] := h1
    rw [if_pos h11] at h1
    exact bitsL_inj h1.1 b1 (by rw [← h1.2, b2])
  | false =>
    have hE := h0 rfl
    by_cases h2 : E = 2
    · subst h2
      obtain ⟨s1, l1, hn, ho, hs⟩ := h.2.1 rfl rfl
      obtain rfl := hr.det hs
      have hne : ¬ s1.now = 11 := by omega
      refine ⟨ho, rfl, by simp [Og.ended, hne], fun rs zs h1 h3 _ => ?_⟩
      have h1 : if s1.now = 11 then Bytes rs ∧ l1 = bitsL rs else rs = [] := h1
      rw [if_neg hne] at h1
      rw [h1, h3 rfl]
    · obtain rfl := hr.det (h.2.2 rfl hE h2)
      refine ⟨rfl, by rw [if_neg h2]; rfl, rfl, fun rs zs h1 h3 _ => ?_⟩
      have h1 : rs = [] := h1
      rw [h1, h3 rfl]
/-- Nothing but block g changes. -/
structure OnlyG (g : Option Nat) (w w' : World) : Prop where
  os : w'.os = w.os
  tape : w'.tape = w.tape
  output : w'.output = w.output
  size : w.heap.size ≤ w'.heap.size
  block : ∀ k, g ≠ some k → w'.heap[k]? = w.heap[k]?
theorem OnlyG.refl (g : Option Nat) (w : World) : OnlyG g w w := ⟨rfl, rfl, rfl, Nat.le_refl _, fun _ _ => rfl⟩
theorem OnlyG.set {g : Nat} {w w' : World} (h : OnlyG (some g) w w') (i : Nat) (v : Value) : OnlyG (some g) w (w'.setCell ⟨g, i, none⟩ v) :=
  ⟨h.os, h.tape, h.output, by simp only [World.setCell, Array.size_modify]; exact h.size, fun k hk => (Below.heap_setCell _ _ _ _ (fun e => hk (by rw [e]))).trans (h.block k hk)⟩
theorem Dec.only {base : Nat} {w0 w1 w2 : World} {d lim : Nat} {L : List Int} {o o' : Ow} {r : Og} {g : Option Nat} {v : Value} {zs : List Value} (hsl : Sl w0 5 v g zs) (hne : ∀ k, g = some k → k ≠ d ∧ o.g ≠ some k ∧ o.q ≠ some k ∧ o.t ≠ some k) (hst : Step w0 w1 d o o') (hd : Dec base w1 d lim L o' r) (h12 : OnlyG g w1 w2) : Dec base w2 d lim L o' r := by
  have hlt : ∀ k, g = some k → k < w0.heap.size := fun k hk => hsl.lt hk
  refine hd.keep ⟨h12.size, fun k hk => ?_⟩ (h12.block d fun e => (hne d e).1 rfl) (fun k hk => h12.block k fun e => ?_) (fun k hk => h12.block k fun e => ?_)
  · by_cases e : g = some k
    · obtain ⟨c, e2⟩ := hsl.tag k e
      obtain ⟨a1, a2, a3, a4⟩ := hne k e
      exact .inr ⟨c, 5, (hst.block k (hlt k e) a1 (fun h => a2 h.symm) (fun h => a3 h.symm) (fun h => a4 h.symm)).trans e2, .inr (.inl rfl)⟩
    · exact .inl (h12.block k e)
  · rcases hst.g k hk with e2 | e2
    · exact (hne k e).2.1 e2
    · have := hlt k e; omega
  · rcases hst.q k hk with e2 | e2
    · exact (hne k e).2.2.1 e2
    · have := hlt k e; omega
/-- Between two pieces. -/
def IrRel (w : World) (base d lim : Nat) (bs : List Int) (A T : Nat) (bad : Bool) (wr : World) : Prop :=
  ∃ o r, A ≤ bs.length ∧ Dec base wr d lim (bitsL (bs.take A)) o r ∧ T = r.out.length ∧ bad = (r.err != 0) ∧ Below w.heap.size w wr ∧ base ≤ wr.heap.size
end Go.Proofs.YtloagniacjfkfaaGreatDoor
