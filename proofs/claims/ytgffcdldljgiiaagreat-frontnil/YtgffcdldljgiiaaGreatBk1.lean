/- Small blocks: what bytes tell, byte by byte; a reader in memory. -/
import Derived.Test.YtgffcdldljgiiaaGreatRfL
import Derived.Deep.LoopGhost
import Derived.Deep.RegionHeld3
namespace Go.Proofs.YtgffcdldljgiiaaGreat
open Go.RowKit
/-- A reader between two bytes: how many of the block are to come; whether the end was read; how many belong to blocks; what stands behind. -/
structure Bs where
  left : Nat
  done : Bool
  seen : Nat
  rest : List Int
def bgo : Bs → List Int → List Int × Bs
  | s, [] => ([], s)
  | s, x :: xs =>
    if s.done = true then ([], { s with rest := s.rest ++ x :: xs })
    else if s.left = 0 then bgo { s with left := x.toNat, done := decide (x = 0), seen := s.seen + 1 } xs
    else (x :: (bgo { s with left := s.left - 1, seen := s.seen + 1 } xs).1, (bgo { s with left := s.left - 1, seen := s.seen + 1 } xs).2)
theorem bgo_done {s : Bs} (h : s.done = true) (xs : List Int) : bgo s xs = ([], { s with rest := s.rest ++ xs }) := by
  cases xs with
  | nil => simp [bgo]
  | cons x xs => simp [bgo, h]
theorem bgo_zero {s : Bs} (h : s.done = false) (h0 : s.left = 0) (x : Int) (xs : List Int) : bgo s (x :: xs) = bgo { s with left := x.toNat, done := decide (x = 0), seen := s.seen + 1 } xs := by
  rw [bgo, if_neg (by simp [h]), if_pos h0]
theorem bgo_succ {s : Bs} (h : s.done = false) (h0 : s.left ≠ 0) (x : Int) (xs : List Int) : bgo s (x :: xs) = (x :: (bgo { s with left := s.left - 1, seen := s.seen + 1 } xs).1, (bgo { s with left := s.left - 1, seen := s.seen + 1 } xs).2) := by
  rw [bgo, if_neg (by simp [h]), if_neg h0]
theorem bgo_append : ∀ (xs ys : List Int) (s : Bs), bgo s (xs ++ ys) = ((bgo s xs).1 ++ (bgo (bgo s xs).2 ys).1, (bgo (bgo s xs).2 ys).2)
  | [], ys, s => by simp [bgo]
  | x :: xs, ys, s => by
    by_cases hd : s.done = true
    · rw [bgo_done hd, bgo_done hd, bgo_done (by exact hd)]
      simp
    · have hd' : s.done = false := by simpa using hd
      by_cases h0 : s.left = 0
      · rw [List.cons_append, bgo_zero hd' h0, bgo_zero hd' h0, bgo_append xs ys]
      · rw [List.cons_append, bgo_succ hd' h0, bgo_succ hd' h0, bgo_append xs ys]
        simp
theorem bgo_take : ∀ (xs : List Int) (s : Bs), s.done = false → xs.length ≤ s.left → bgo s xs = (xs, { s with left := s.left - xs.length, seen := s.seen + xs.length })
  | [], s, _, _ => by simp [bgo]
  | x :: xs, s, hd, h => by
    simp only [List.length_cons] at h
    rw [bgo_succ hd (by omega), bgo_take xs { s with left := s.left - 1, seen := s.seen + 1 } hd (by show xs.length ≤ s.left - 1; omega)]
    simp only [List.length_cons]
    rw [show s.left - 1 - xs.length = s.left - (xs.length + 1) by omega, show s.seen + 1 + xs.length = s.seen + (xs.length + 1) by omega]
theorem bgo_chunk (s : Bs) (n : Nat) (xs : List Int) (hd : s.done = false) (hn : n ≤ s.left) (hx : n ≤ xs.length) : bgo s xs = (xs.take n ++ (bgo { s with left := s.left - n, seen := s.seen + n } (xs.drop n)).1, (bgo { s with left := s.left - n, seen := s.seen + n } (xs.drop n)).2) := by
  have hl : (xs.take n).length = n := by rw [List.length_take]; omega
  have := bgo_append (xs.take n) (xs.drop n) s
  rw [List.take_append_drop, bgo_take (xs.take n) s hd (by omega), hl] at this
  exact this
theorem bgo_seen : ∀ (xs : List Int) (s : Bs), (bgo s xs).2.seen ≤ s.seen + xs.length
  | [], s => by simp [bgo]
  | x :: xs, s => by
    by_cases hd : s.done = true
    · rw [bgo_done hd]; simp
    · have hd' : s.done = false := by simpa using hd
      by_cases h0 : s.left = 0
      · rw [bgo_zero hd' h0]; have := bgo_seen xs { s with left := x.toNat, done := decide (x = 0), seen := s.seen + 1 }; simp only [List.length_cons] at this ⊢; omega
      · rw [bgo_succ hd' h0]; have := bgo_seen xs { s with left := s.left - 1, seen := s.seen + 1 }; simp only [List.length_cons] at this ⊢; omega
theorem bgo_told : ∀ (xs : List Int) (s : Bs), (bgo s xs).1.length ≤ xs.length
  | [], s => by simp [bgo]
  | x :: xs, s => by
    by_cases hd : s.done = true
    · rw [bgo_done hd]; simp
    · have hd' : s.done = false := by simpa using hd
      by_cases h0 : s.left = 0
      · rw [bgo_zero hd' h0]; have := bgo_told xs { s with left := x.toNat, done := decide (x = 0), seen := s.seen + 1 }; simp only [List.length_cons] at this ⊢; omega
      · rw [bgo_succ hd' h0]; have := bgo_told xs { s with left := s.left - 1, seen := s.seen + 1 }; simp only [List.length_cons] at this ⊢; omega
theorem bgo_left : ∀ (xs : List Int) (s : Bs), Bytes xs → s.left ≤ 255 → (bgo s xs).2.left ≤ 255
  | [], s, _, h => by simpa [bgo] using h
  | x :: xs, s, hb, h => by
    have hx := hb x (by simp)
    have hb' : Bytes xs := fun z hz => hb z (by simp [hz])
    by_cases hd : s.done = true
    · rw [bgo_done hd]; exact h
    · have hd' : s.done = false := by simpa using hd
      by_cases h0 : s.left = 0
      · rw [bgo_zero hd' h0]; exact bgo_left xs _ hb' (by show x.toNat ≤ 255; omega)
      · rw [bgo_succ hd' h0]; exact bgo_left xs _ hb' (by show s.left - 1 ≤ 255; omega)
theorem bgo_rest : ∀ (xs : List Int) (s : Bs), (bgo s xs).2.rest.length ≤ s.rest.length + xs.length
  | [], s => by simp [bgo]
  | x :: xs, s => by
    by_cases hd : s.done = true
    · rw [bgo_done hd]; simp
    · have hd' : s.done = false := by simpa using hd
      by_cases h0 : s.left = 0
      · rw [bgo_zero hd' h0]; have := bgo_rest xs { s with left := x.toNat, done := decide (x = 0), seen := s.seen + 1 }; simp only [List.length_cons] at this ⊢; omega
      · rw [bgo_succ hd' h0]; have := bgo_rest xs { s with left := s.left - 1, seen := s.seen + 1 }; simp only [List.length_cons] at this ⊢; omega

/-- The reader at block p. -/
def BC (w : World) (p : Nat) (left : Int) (done : Bool) (seen : Int) (v : Value) : Prop :=
  w.heap[p]? = some (.cells #[.int .i64 left, .bool done, .int .i64 seen, v] 319 (0, 0))
section
variable {w : World} {p : Nat} {left seen : Int} {done : Bool} {v : Value}
theorem BC.cells (h : BC w p left done seen v) : w.cell? ⟨p, 0, none⟩ = some (.int .i64 left) ∧ w.cell? ⟨p, 1, none⟩ = some (.bool done) ∧ w.cell? ⟨p, 2, none⟩ = some (.int .i64 seen) ∧ w.cell? ⟨p, 3, none⟩ = some v ∧ ∀ j, w.frozen? ⟨p, j, none⟩ = false := by
  unfold BC at h
  refine ⟨?_, ?_, ?_, ?_, fun j => ?_⟩ <;> simp [World.cell?, World.frozen?, h]
theorem BC.set0 (h : BC w p left done seen v) (x : Int) : BC (w.setCell ⟨p, 0, none⟩ (.int .i64 x)) p x done seen v := by
  unfold BC at h ⊢; rw [heap_setCell_same w p 0 _ _ _ h]; rfl
theorem BC.set1 (h : BC w p left done seen v) (x : Bool) : BC (w.setCell ⟨p, 1, none⟩ (.bool x)) p left x seen v := by
  unfold BC at h ⊢; rw [heap_setCell_same w p 1 _ _ _ h]; rfl
theorem BC.set2 (h : BC w p left done seen v) (x : Int) : BC (w.setCell ⟨p, 2, none⟩ (.int .i64 x)) p left done x v := by
  unfold BC at h ⊢; rw [heap_setCell_same w p 2 _ _ _ h]; rfl
theorem BC.set3 (h : BC w p left done seen v) (x : Value) : BC (w.setCell ⟨p, 3, none⟩ x) p left done seen x := by
  unfold BC at h ⊢; rw [heap_setCell_same w p 3 _ _ _ h]; rfl
theorem BC.same {w' : World} (h : BC w p left done seen v) (hs : w'.heap[p]? = w.heap[p]?) : BC w' p left done seen v := hs.trans h
theorem BC.lt (h : BC w p left done seen v) : p < w.heap.size := lt_of_block h
end
theorem Sl.tagB {w : World} {e : TypeId} {v : Value} {g : Option Nat} {xs : List Value} (h : Sl w e v g xs) : ∀ k, g = some k → ∃ c, w.heap[k]? = some (.cells c e (0, 0)) := by
  intro k hk
  rcases h with ⟨_, rfl, _⟩ | ⟨b, off, cap, cur, _, rfl, hh, _⟩
  · cases hk
  · cases hk; exact ⟨_, hh⟩
theorem BC.ne {w : World} {p : Nat} {left seen : Int} {done : Bool} {v : Value} {e : TypeId} {v' : Value} {g : Option Nat} {xs : List Value} (h : BC w p left done seen v) (hs : Sl w e v' g xs) (he : e ≠ 319) : g ≠ some p := by
  intro hk
  obtain ⟨c, e2⟩ := hs.tagB p hk
  unfold BC at h
  rw [h] at e2
  simp only [Option.some.injEq, Obj.cells.injEq] at e2
  exact he e2.2.1.symm
/-- Bytes in memory are not the reader's own cells. -/
theorem BC.row {w : World} {p : Nat} {left seen : Int} {done : Bool} {v : Value} (h : BC w p left done seen v) {a : Option Addr} {zs : List Int} (hr : Row w a zs) (hv : ∀ x, v ≠ .int .u8 x) : ∀ x, a = some x → zs ≠ [] → x.block ≠ p := by
  intro x hx hz
  rcases hr with hr | ⟨b, off, rfl, hc⟩
  · exact absurd hr hz
  · simp at hx
    subst hx
    rintro rfl
    have h0 := hc 0 (List.length_pos_iff.2 hz)
    unfold BC at h
    simp only [World.cell?, h, Nat.add_zero] at h0
    match off, h0 with
    | 0, h0 => simp at h0
    | 1, h0 => simp at h0
    | 2, h0 => simp at h0
    | 3, h0 => simp at h0; exact hv _ h0
    | n + 4, h0 => simp at h0
/-- The reader in memory, as it stands. -/
def BR (w : World) (p : Nat) (s : Bs) (g : Option Nat) : Prop := ∃ v, BC w p s.left s.done s.seen v ∧ Sl w 5 v g (vals s.rest)
theorem BR.lt {w : World} {p : Nat} {s : Bs} {g : Option Nat} (h : BR w p s g) : p < w.heap.size := by obtain ⟨v, h, _⟩ := h; exact h.lt
theorem BR.glt {w : World} {p : Nat} {s : Bs} {g : Option Nat} (h : BR w p s g) {k : Nat} (hk : g = some k) : k < w.heap.size := by obtain ⟨v, _, h⟩ := h; exact h.lt hk
theorem BR.sep {w : World} {p : Nat} {s : Bs} {g : Option Nat} (h : BR w p s g) : g ≠ some p := by obtain ⟨v, h, h2⟩ := h; exact h.ne h2 (by decide)
theorem BR.same {w w' : World} {p : Nat} {s : Bs} {g : Option Nat} (h : BR w p s g) (hp : w'.heap[p]? = w.heap[p]?) (hg : ∀ k, g = some k → w'.heap[k]? = w.heap[k]?) : BR w' p s g := by
  obtain ⟨v, h1, h2⟩ := h
  exact ⟨v, h1.same hp, h2.same hg⟩
theorem BR.old {w w' : World} {p : Nat} {s : Bs} {g : Option Nat} (h : BR w p s g) (hb : Below w.heap.size w w') : BR w' p s g :=
  h.same (hb.block _ h.lt) fun _ hk => hb.block _ (h.glt hk)
theorem BR.row {w : World} {p : Nat} {s : Bs} {g : Option Nat} (h : BR w p s g) {a : Option Addr} {zs : List Int} (hr : Row w a zs) : ∀ x, a = some x → zs ≠ [] → x.block ≠ p := by
  obtain ⟨v, h1, h2⟩ := h
  obtain ⟨av, cv, rfl, _⟩ := h2.shape
  exact h1.row hr (by intro x hx; cases hx)
def bs0 : Bs := ⟨0, false, 0, []⟩
set_option maxHeartbeats 400000 in
theorem bnew_any (w : World) : Calls Tryz.prog 221 #[] w fun e w' => e = .returned (.pointer (some ⟨w.heap.size, 0, none⟩)) ∧ BR w' w.heap.size bs0 none ∧ Below w.heap.size w w' := by
  go_enter Tryz.func221, Tryz.ntmps221
  go_wp2
  go_ret
  exact ⟨rfl, ⟨_, heap_alloc_new _ _, Sl.nil _ _⟩, (Below.refl _ _).alloc (Nat.le_refl _) _⟩
section
variable {w : World} {p : Nat} {s : Bs} {g : Option Nat}
set_option maxHeartbeats 400000 in
theorem bdone_any (h : BR w p s g) : Calls Tryz.prog 220 #[.pointer (some ⟨p, 0, none⟩)] w fun e w' => e = .returned (.bool s.done) ∧ w' = w := by
  obtain ⟨v, h1, h2⟩ := h
  obtain ⟨k0, k1, k2, k3, fz⟩ := h1.cells
  clear h1 h2
  go_enter Tryz.func220, Tryz.ntmps220
  go_wp2
  go_ret
  exact ⟨rfl, rfl⟩
set_option maxHeartbeats 400000 in
theorem bdone_nil (w : World) : Calls Tryz.prog 220 #[.pointer none] w fun e w' => e = .returned (.bool false) ∧ w' = w := by
  go_enter Tryz.func220, Tryz.ntmps220
  go_wp2
  go_ret
  exact ⟨rfl, rfl⟩
set_option maxHeartbeats 400000 in
theorem bseen_any (h : BR w p s g) : Calls Tryz.prog 273 #[.pointer (some ⟨p, 0, none⟩)] w fun e w' => e = .returned (.int .i64 s.seen) ∧ w' = w := by
  obtain ⟨v, h1, h2⟩ := h
  obtain ⟨k0, k1, k2, k3, fz⟩ := h1.cells
  clear h1 h2
  go_enter Tryz.func273, Tryz.ntmps273
  go_wp2
  go_ret
  exact ⟨rfl, rfl⟩
set_option maxHeartbeats 400000 in
theorem bseen_nil (w : World) : Calls Tryz.prog 273 #[.pointer none] w fun e w' => e = .returned (.int .i64 0) ∧ w' = w := by
  go_enter Tryz.func273, Tryz.ntmps273
  go_wp2
  go_ret
  exact ⟨rfl, rfl⟩
def BrPost (w : World) (rest : List Int) (e : Ending) (w' : World) : Prop := ∃ v g', e = .returned v ∧ Sl w' 5 v g' (vals rest) ∧ (∀ k, g' = some k → w.heap.size ≤ k) ∧ Below w.heap.size w w'
set_option maxHeartbeats 800000 in
theorem bbegin_any (x : Int) (hx : 0 ≤ x ∧ x ≤ 255) (hse : s.seen ≤ 4611686018427387904) (h : BR w p s g) : Calls Tryz.prog 235 #[.pointer (some ⟨p, 0, none⟩), .int .u8 x] w fun e w' => e = .returned (.tuple #[]) ∧ BR w' p { s with left := x.toNat, done := decide (x = 0), seen := s.seen + 1 } g ∧ Fr w w' p none := by
  have hsep := h.sep
  obtain ⟨v, h1, h2⟩ := h
  obtain ⟨k0, k1, k2, k3, fz⟩ := h1.cells
  obtain ⟨X, rfl⟩ : ∃ X : Nat, x = X := ⟨x.toNat, by omega⟩
  obtain ⟨N, hN⟩ : ∃ N, s.seen = N := ⟨_, rfl⟩
  have HP : Hid (∀ b : Bool, b = decide ((X : Int) = 0) → BR (((w.setCell ⟨p, 2, none⟩ (.int .i64 (N + 1))).setCell ⟨p, 0, none⟩ (.int .i64 X)).setCell ⟨p, 1, none⟩ (.bool b)) p { s with left := (X : Int).toNat, done := decide ((X : Int) = 0), seen := s.seen + 1 } g ∧ Fr w (((w.setCell ⟨p, 2, none⟩ (.int .i64 (N + 1))).setCell ⟨p, 0, none⟩ (.int .i64 X)).setCell ⟨p, 1, none⟩ (.bool b)) p none) := by
    rintro b rfl
    refine ⟨⟨v, ?_, h2.same fun k hk => ?_⟩, ((Fr.set p 2 _ none).trans (Fr.set p 0 _ none) (.inl rfl)).trans (Fr.set p 1 _ none) (.inl rfl)⟩
    · have := ((h1.set2 (N + 1)).set0 X).set1 (decide ((X : Int) = 0))
      simp only [Int.toNat_natCast, hN, Int.natCast_add]
      exact this
    · have hkp : k ≠ p := fun e => hsep (by rw [hk, e])
      rw [Below.heap_setCell _ _ _ _ hkp, Below.heap_setCell _ _ _ _ hkp, Below.heap_setCell _ _ _ _ hkp]
  rw [hN] at k2 hse
  clear h1 h2 hN
  go_enter Tryz.func235, Tryz.ntmps235
  go_wp2
  go_end0
  refine ⟨rfl, HP.out _ ?_⟩
  rw [Bool.eq_iff_iff]
  simp
end
end Go.Proofs.YtgffcdldljgiiaaGreat
