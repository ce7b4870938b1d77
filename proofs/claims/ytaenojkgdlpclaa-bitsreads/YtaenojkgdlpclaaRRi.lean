import Derived.Test.YtaenojkgdlpclaaRRh
namespace Go.Proofs.Ytaenojkgdlpclaa
open Go.RowKit

theorem IRow.take {w : World} {a : Option Addr} {l : List Int} (h : IRow w a l) (k : Nat) : IRow w a (l.take k) := by
  rcases h with rfl | ⟨b, off, rfl, hc⟩
  · exact .inl (by simp)
  · refine .inr ⟨b, off, rfl, fun i hi => ?_⟩
    rw [List.length_take] at hi
    rw [hc i (by omega), List.getElem?_take_of_lt (by omega)]
theorem IRow.same {w w' : World} {a : Option Addr} {l : List Int} (h : IRow w a l) (hs : ∀ x, a = some x → l ≠ [] → w'.heap[x.block]? = w.heap[x.block]?) : IRow w' a l := by
  rcases h with h | ⟨b, off, rfl, hc⟩
  · exact .inl h
  · by_cases hz : l = []
    · exact .inl hz
    · exact .inr ⟨b, off, rfl, fun i hi => (World.cell?_of_block (a := ⟨b, off + i, none⟩) (hs ⟨b, off, none⟩ rfl hz)).trans (hc i hi)⟩
/-- A piece of a row of ints, as Go's own cut tells it. -/
theorem Sl.piece {w : World} {av : Option Addr} {n cv : Nat} {g : Option Nat} {L : List Int} (h : Sl w 3 (.slice av n cv) g (ivals L)) (hn : L.length = n) (k m : Nat) (hk : k ≤ n) : IRow w (if cv = k then av else Option.map (fun x => x.add k) av) ((L.drop k).take m) := by
  have h1 := h.cut k (by rw [ivals_len]; omega) (by rw [ivals_len]; exact hn)
  rw [show (ivals L).drop k = ivals (L.drop k) by simp [ivals]] at h1
  exact (h1.irow rfl).take m

def RTakePost (w : World) (x : Nat) (g : Option Nat) (v : Int) (L : List Int) (n : Nat) (e : Ending) (w' : World) : Prop :=
  e = .returned (.tuple #[.int .i64 v, .bool true]) ∧ RRf w' x g L n ∧ Fr w w' x g
set_option maxHeartbeats 1600000 in
set_option maxRecDepth 100000 in
theorem rtake_yes_q (x : Nat) (g : Option Nat) (L q : List Int) (n m : Nat) (w : World) (hq : (L.drop n).take m = q) (h : RRf w x g L n) (hl : L.length ≤ 1000000) (hb : Bit L) (hm : m ≤ 32) (hn : n + m ≤ L.length) :
    Calls Try.prog 14 #[.pointer (some ⟨x, 0, none⟩), .int .i64 m] w fun e w' => RTakePost w x g (binN q) L (n + m) e w' := by
  have C := rhave_any x g L n w h hl (by omega)
  have HR : Hid (RRf w x g L n) := h
  obtain ⟨v, hh, hs⟩ := h
  obtain ⟨av, cv, hv, hl1, hl2, hl3⟩ := hs.shape
  subst hv
  rw [ivals_len] at hh hs hl1
  unfold maxLen at hl2
  obtain ⟨q0, q1, f0, f1⟩ := two_cells hh
  have HH : Hid (w.heap[x]? = some (.cells #[.slice av L.length cv, .int .i64 n] 30 (0, 0))) := hh
  have HS : Hid (Sl w 3 (.slice av L.length cv) g (ivals L)) := hs
  have HBT : Hid (Bit ((L.drop n).take m) ∧ ((L.drop n).take m).length = m) := ⟨(hb.drop _).take _, by rw [List.length_take, List.length_drop]; omega⟩
  have h1 : (m : Int) ≤ (L.length : Int) - n := by omega
  have h2 : (m : Int) ≤ 32 := by omega
  clear hh hs hb
  go_enter Try.func14, Try.ntmps14
  go_wp2_with (go_at_call 23; refine C.mono ?_; rintro e w' ⟨rfl, nn, rfl⟩)
  clear C
  obtain ⟨W1, hW1⟩ : ∃ W1, W1 = (w.drewN nn).setCell ⟨x, 1, none⟩ (.int .i64 ((n : Int) + m)) := ⟨_, rfl⟩
  have HR1 : Hid (RRf W1 x g L (n + m)) := by rw [hW1]; exact (HR.out.drewN nn).set1 _ _ (by omega)
  have HF1 : Hid (Fr w W1 x g) := by rw [hW1]; exact ((Fr.refl w x g).drewN nn).trans (Fr.set x 1 _ g) (.inl rfl)
  have hh1 : W1.heap[x]? = some (.cells #[.slice av L.length cv, .int .i64 ((n : Int) + m)] 30 (0, 0)) := by rw [hW1]; exact two_set1 (w := w.drewN nn) HH.out
  have HS1 : Hid (Sl W1 3 (.slice av L.length cv) g (ivals L)) := by
    have hp := HR.out.sep
    rw [hW1]
    exact HS.out.same fun k hk => (Below.heap_setCell (w.drewN nn) _ _ k (fun e => hp (by rw [hk, e])))
  have HI : Hid (∀ q, IRow (W1.drewN q) (if cv = n then av else Option.map (fun x => x.add n) av) ((L.drop n).take m)) := fun q => ((HS1.out.same (w' := W1.drewN q) fun _ _ => rfl)).piece rfl n m (by omega)
  clear q0 q1 f0 f1
  obtain ⟨q0, q1, f0, f1⟩ := two_cells hh1
  rw [← hW1]
  rw [hq] at HBT HI
  clear hW1 hh1 hq
  go_quiet ((go_at_call 34; exact Calls.quiet_of_same (number_any _ m _ q _ HBT.out.2 hm HBT.out.1 (HI.out _))))
  go_wp2
  all_goals
    go_ret2
    exact ⟨rfl, HR1.out.drewN _, HF1.out.drewN _⟩
theorem rtake_yes (x : Nat) (g : Option Nat) (L : List Int) (n m : Nat) (w : World) (h : RRf w x g L n) (hl : L.length ≤ 1000000) (hb : Bit L) (hm : m ≤ 32) (hn : n + m ≤ L.length) :
    Calls Try.prog 14 #[.pointer (some ⟨x, 0, none⟩), .int .i64 m] w fun e w' => RTakePost w x g (binN ((L.drop n).take m)) L (n + m) e w' := rtake_yes_q x g L _ n m w rfl h hl hb hm hn
end Go.Proofs.Ytaenojkgdlpclaa
