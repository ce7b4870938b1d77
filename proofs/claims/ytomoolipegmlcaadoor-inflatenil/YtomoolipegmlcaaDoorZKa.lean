/- Joined: Ka. -/
import Derived.Test.YtomoolipegmlcaaDoorZo
import Derived.Test.YtomoolipegmlcaaDoorZa
/- A nil decoder, and one without room. -/
namespace Go.Proofs.YtomoolipegmlcaaDoor
open Go.RowKit
def NlPost (w : World) (e : Ending) (w' : World) : Prop :=
  ∃ ax cx er, e = .returned (.tuple #[.slice ax 0 cx, .int .i64 er]) ∧ Below w.heap.size w w'
theorem push_none (a : Option Addr) (len cap : Nat) (w0 w : World) (h : BArg w0 a len cap) (hb : Below w0.heap.size w0 w) (hord : Ord w0) {d : Nat} {w1 : World} (hn : NwPost w 0 (.returned (.pointer (some ⟨d, 0, none⟩))) w1) :
    Calls Tryd.prog 11 #[.pointer (some ⟨d, 0, none⟩), .slice a len cap] w1 fun e w' => NlPost w e w' := by
  obtain ⟨e, hd, hb1⟩ := hn
  simp only [Ending.returned.injEq, Value.pointer.injEq, Option.some.injEq, Addr.mk.injEq] at e
  obtain ⟨rfl, _⟩ := e
  obtain ⟨bs, hby, hl, hc, hcap, hnone, hrow⟩ := h
  have hb2 : Below w0.heap.size w0 w1 := hb.trans (hb1.mono hb.size)
  have ho1 : Ord w1 := hord.below hb2 hord.pos
  have hpos : 1 ≤ w.heap.size := Nat.le_trans hord.pos hb.size
  refine (push_any hd bs a len cap hl hby (fun e => by have := hnone e; omega) (hrow.old hb2) hb1.size hpos ho1 (by decide) (by simp only [List.length_nil]; omega)).mono ?_
  rintro e w' ⟨r', o', tv, tg, rfl, hdec, _, hsl, _, hst⟩
  obtain ⟨ax, cx, hv, _⟩ := hsl.shape
  have hle := hdec.le
  have h0 : r'.out = [] := List.length_eq_zero_iff.1 (by omega)
  rw [h0] at hv
  exact ⟨ax, cx, r'.err, by rw [hv]; rfl, hb1.trans (hst.below hd.fr hb1.size)⟩
set_option maxHeartbeats 1600000 in
set_option maxRecDepth 20000 in
theorem inil_neg (a : Option Addr) (len cap : Nat) (x : Int) (w : World) (h : BArg w a len cap) (hord : Ord w) (hx : x < 0) :
    Calls Tryd.prog 8 #[.slice a len cap, .int .i64 x] w fun e w' => e = .returned (.bool true) ∧ Below w.heap.size w w' := by
  have HA : Hid (BArg w a len cap) := h
  have HO : Hid (Ord w) := hord
  clear h hord
  go_enter Tryd.func8, Tryd.ntmps8
  go_wp2_with fail
  refine (fixed_any w HO.out).mono ?_
  rintro e w1 ⟨rfl, b1⟩
  have HB1 : Hid (Below w.heap.size w w1) := b1
  clear b1
  go_wp2_with fail
  refine (push_nil _ w1).mono ?_
  rintro e w1' ⟨rfl, hw⟩
  rw [hw]
  clear hw
  go_wp2_with fail
  refine (new_any x w1 (by omega)).mono ?_
  rintro e w2 hn
  obtain rfl := hn.1
  rw [show x.toNat = 0 by omega] at hn
  have HP := push_none a len cap w w1 HA.out HB1.out HO.out hn
  clear hn
  go_wp2_with fail
  refine HP.mono ?_
  rintro e w3 ⟨ax, cx, er, rfl, b3⟩
  have HB3 : Hid (Below w.heap.size w w3) := HB1.out.trans (b3.mono HB1.out.size)
  clear HP HB1 b3
  go_wp2_with fail
  refine (done_nil w3).mono ?_
  rintro e w4 ⟨rfl, hw⟩
  rw [hw]
  clear hw
  go_wp2_with fail
  refine (rest_nil w3).mono ?_
  rintro e w5 ⟨rfl, hw⟩
  rw [hw]
  clear hw
  go_wp2_with fail
  refine (total_nil w3).mono ?_
  rintro e w6 ⟨rfl, hw⟩
  rw [hw]
  clear hw
  go_wp2
  go_ret
  exact ⟨rfl, HB3.out⟩
set_option maxHeartbeats 1600000 in
set_option maxRecDepth 20000 in
theorem inil_pos (a : Option Addr) (len cap : Nat) (x : Int) (w : World) (h : BArg w a len cap) (hord : Ord w) (hx : 0 < x) :
    Calls Tryd.prog 8 #[.slice a len cap, .int .i64 x] w fun e w' => e = .returned (.bool true) ∧ Below w.heap.size w w' := by
  have HA : Hid (BArg w a len cap) := h
  have HO : Hid (Ord w) := hord
  clear h hord
  go_enter Tryd.func8, Tryd.ntmps8
  go_wp2_with fail
  refine (fixed_any w HO.out).mono ?_
  rintro e w1 ⟨rfl, b1⟩
  have HB1 : Hid (Below w.heap.size w w1) := b1
  clear b1
  go_wp2_with fail
  refine (push_nil _ w1).mono ?_
  rintro e w1' ⟨rfl, hw⟩
  rw [hw]
  clear hw
  go_wp2_with fail
  refine (new_any 0 w1 (by omega)).mono ?_
  rintro e w2 hn
  obtain rfl := hn.1
  have HP := push_none a len cap w w1 HA.out HB1.out HO.out hn
  clear hn
  go_wp2_with fail
  refine HP.mono ?_
  rintro e w3 ⟨ax, cx, er, rfl, b3⟩
  have HB3 : Hid (Below w.heap.size w w3) := HB1.out.trans (b3.mono HB1.out.size)
  clear HP HB1 b3
  go_wp2_with fail
  refine (done_nil w3).mono ?_
  rintro e w4 ⟨rfl, hw⟩
  rw [hw]
  clear hw
  go_wp2_with fail
  refine (rest_nil w3).mono ?_
  rintro e w5 ⟨rfl, hw⟩
  rw [hw]
  clear hw
  go_wp2_with fail
  refine (total_nil w3).mono ?_
  rintro e w6 ⟨rfl, hw⟩
  rw [hw]
  clear hw
  go_wp2
  go_ret
  exact ⟨rfl, HB3.out⟩
set_option maxHeartbeats 1600000 in
set_option maxRecDepth 20000 in
theorem inil_zero (a : Option Addr) (len cap : Nat) (w : World) (h : BArg w a len cap) (hord : Ord w) :
    Calls Tryd.prog 8 #[.slice a len cap, .int .i64 0] w fun e w' => e = .returned (.bool true) ∧ Below w.heap.size w w' := by
  have HA : Hid (BArg w a len cap) := h
  have HO : Hid (Ord w) := hord
  clear h hord
  go_enter Tryd.func8, Tryd.ntmps8
  go_wp2_with fail
  refine (fixed_any w HO.out).mono ?_
  rintro e w1 ⟨rfl, b1⟩
  have HB1 : Hid (Below w.heap.size w w1) := b1
  clear b1
  go_wp2_with fail
  refine (push_nil _ w1).mono ?_
  rintro e w1' ⟨rfl, hw⟩
  rw [hw]
  clear hw
  go_wp2_with fail
  refine (new_any 0 w1 (by omega)).mono ?_
  rintro e w2 hn
  obtain rfl := hn.1
  have HP := push_none a len cap w w1 HA.out HB1.out HO.out hn
  clear hn
  go_wp2_with fail
  refine HP.mono ?_
  rintro e w3 ⟨ax, cx, er, rfl, b3⟩
  have HB3 : Hid (Below w.heap.size w w3) := HB1.out.trans (b3.mono HB1.out.size)
  clear HP HB1 b3
  go_wp2_with fail
  refine (done_nil w3).mono ?_
  rintro e w4 ⟨rfl, hw⟩
  rw [hw]
  clear hw
  go_wp2_with fail
  refine (rest_nil w3).mono ?_
  rintro e w5 ⟨rfl, hw⟩
  rw [hw]
  clear hw
  go_wp2_with fail
  refine (total_nil w3).mono ?_
  rintro e w6 ⟨rfl, hw⟩
  rw [hw]
  clear hw
  go_wp2
  go_ret
  exact ⟨rfl, HB3.out⟩
theorem inil_walk (a : Option Addr) (len cap : Nat) (x : Int) (w : World) (hord : Ord w) (h : BArg w a len cap) (_ : (Lit.int .i64 x).wf = true) :
    Calls Tryd.prog 8 #[.slice a len cap, .int .i64 x] w fun e w' => e = .returned (.bool true) ∧ Below w.heap.size w w' := by
  by_cases hx : x < 0
  · exact inil_neg a len cap x w h hord hx
  · by_cases h0 : x = 0
    · subst h0; exact inil_zero a len cap w h hord
    · exact inil_pos a len cap x w h hord (by omega)
end Go.Proofs.YtomoolipegmlcaaDoor
