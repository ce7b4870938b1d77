/- zlib: bytes pushed at once and in pieces. -/
import Derived.Test.YtloagniacjfkfaaGreatDoorSA
import Derived.Test.YtloagniacjfkfaaGreatDoorQA
namespace Go.Proofs.YtloagniacjfkfaaGreatDoor
open Go.RowKit
theorem ZaPost.open {w w' : World} {bs : List Int} {lim : Int} {e : Ending} (h : ZaPost w bs lim e w') : ∃ z S d a' c' A, e = .returned (.tuple #[.slice a' z.out.length c', .int .i64 z.er, .pointer (some ⟨d, 0, none⟩)]) ∧ ZMem w.heap.size w' d lim A z S ∧ A.length ≤ bs.length ∧ ZSays lim.toNat bs z ∧ Row w' a' z.out ∧ z.out.length ≤ c' ∧ (a' = none → c' = 0) ∧ Below w.heap.size w w' := by
  obtain ⟨z, S, d, v, g, A, he, hm, hA, hz, hs, hg, hb⟩ := h
  obtain ⟨a', c', hv, hle, _, h3⟩ := hs.shape
  rw [vals_len] at hv hle
  exact ⟨z, S, d, a', c', A, by rw [he, hv], hm, hA, hz, hs.row hv, hle, h3, hb⟩
theorem zrest_row {base : Nat} {w : World} {d : Nat} {lim : Int} {bs : List Int} {z : Zo} {S : Nat → Prop} (h : ZMem base w d lim bs z S) (hl : z.rest.length ≤ 140737488351232) : Calls Tryz.prog 16 #[.pointer (some ⟨d, 0, none⟩)] w fun e w' => ∃ a c, e = .returned (.slice a z.rest.length c) ∧ Row w' a z.rest ∧ Below w.heap.size w w' := by
  refine (zrest_any h hl).mono ?_
  rintro e w' ⟨v, g, rfl, hs, hg, hb⟩
  obtain ⟨ax, cx, hv, _⟩ := hs.shape
  rw [vals_len] at hv
  exact ⟨ax, cx, by rw [hv], hs.row hv, hb⟩
set_option maxHeartbeats 3200000 in
set_option maxRecDepth 20000 in
theorem zcuts_walk (a : Option Addr) (len cap : Nat) (s l : Int) (w : World) (hord : Ord w) (hsec : Sec w) (ha : BArg w a len cap) (ws : (Lit.int .u8 s).wf = true) (wl : (Lit.int .u16 l).wf = true) :
    Calls Tryz.prog 4 #[.slice a len cap, .int .u8 s, .int .u16 l] w fun e w' => e = .returned (.bool true) ∧ Below w.heap.size w w' := by
  have hs := bounds_u8 ws
  have hl := bounds_u16 wl
  clear ws wl
  obtain ⟨m, rfl⟩ : ∃ m : Nat, l = (m : Int) := ⟨l.toNat, by omega⟩
  obtain ⟨q, rfl⟩ : ∃ q : Nat, s = (q : Int) := ⟨s.toNat, by omega⟩
  obtain ⟨A, hA, hAl, hn, hc, hc0, hAr⟩ := ha
  have HA : Hid (Bytes A ∧ Row w a A ∧ (a = none → cap = 0) ∧ Ord w ∧ Sec w ∧ A.length = len) := ⟨hA, hAr, hc0, hord, hsec, hAl⟩
  clear hA hAr hc0 hord hsec hAl
  by_cases hbig : 2000 < (len : Int)
  · go_enter Tryz.func4, Tryz.ntmps4
    go_wp2_with (go_at_call 9; refine (zfixed_any _ HA.out.2.2.2.1 HA.out.2.2.2.2.1).mono ?_; rintro e w1 ⟨rfl, hbel⟩)
    go_ret
    exact ⟨rfl, hbel⟩
  obtain ⟨N, hN⟩ : ∃ N : Nat, 1 + q % 16 = N := ⟨_, rfl⟩
  have hN1 : 1 ≤ N ∧ N ≤ 100 := by omega
  have hNi : (1 : Int) + ((q : Int) % 16) = (N : Int) := by omega
  go_enter Tryz.func4, Tryz.ntmps4
  go_wp2_with fail
  refine (zfixed_any _ HA.out.2.2.2.1 HA.out.2.2.2.2.1).mono ?_
  rintro e w1 ⟨rfl, b1⟩
  have HO1 : Hid (Ord w1) := HA.out.2.2.2.1.below b1 HA.out.2.2.2.1.pos
  have HB1 : Hid (Below w.heap.size w w1) := b1
  clear b1
  have C1 := zall_any a len cap A 4000 (m : Int) w1 HA.out.2.2.2.2.2 (HA.out.2.1.old HB1.out) HA.out.1 hn (by omega) HA.out.2.2.1 (by omega) (by omega) (by omega) HO1.out
  go_wp2_with fail
  refine C1.mono ?_
  rintro e w2 hp
  obtain ⟨z, S, d, ax, cx, L, rfl, hd, hL, hz, hrow, hcx, _, b2⟩ := hp.open
  have hle := hz.le
  have H2 : Hid (ZMem w1.heap.size w2 d m L z S ∧ ZSays (m : Int).toNat A z ∧ Row w2 ax z.out) := ⟨hd, hz, hrow⟩
  have HB2 : Hid (Below w.heap.size w w2) := HB1.out.trans (b2.mono HB1.out.size)
  have HO2 : Hid (Ord w2) := HA.out.2.2.2.1.below HB2.out HA.out.2.2.2.1.pos
  have HP2 := zall_any a len cap A N (m : Int) w2 HA.out.2.2.2.2.2 (HA.out.2.1.old HB2.out) HA.out.1 hn (by omega) HA.out.2.2.1 (by omega) (by omega) hN1.1 HO2.out
  obtain ⟨ER, hER⟩ : ∃ ER, z.er = ER := ⟨_, rfl⟩
  have HER : Hid (z.er = ER) := hER
  obtain ⟨Z, hZ⟩ : ∃ Z, z.out.length = Z := ⟨_, rfl⟩
  have HZ : Hid (z.out.length = Z) := hZ
  have hZl : Z ≤ 65535 := by omega
  rw [hER, hZ]
  clear C1 hp hd hL hz hrow b2 HB1 HO1 hER hZ hle hcx
  go_wp2_with fail
  refine HP2.mono ?_
  rintro e w3 hp
  obtain ⟨z2, S2, d2, ay, cy, L2, rfl, hd, hL, hz, hrow, hcy, _, b3⟩ := hp.open
  obtain rfl : z = z2 := H2.out.2.1.det hz
  have hrl : z.rest.length ≤ 140737488351232 := by have := H2.out.2.1.rest_le; have := HA.out; omega
  have H3 : Hid (ZMem w2.heap.size w3 d2 m L2 z S2 ∧ Row w3 ay z.out ∧ ZMem w1.heap.size w3 d m L z S ∧ Row w3 ax z.out ∧ z.rest.length ≤ 140737488351232) := ⟨hd, hrow, H2.out.1.old b3, H2.out.2.2.old b3, hrl⟩
  have HB3 : Hid (Below w.heap.size w w3) := HB2.out.trans (b3.mono HB2.out.size)
  rw [HER.out, HZ.out]
  clear HP2 hp hd hL hz hrow hcy b3 H2 HB2 HO2 hrl
  have HSM := same_any ax ay Z cx cy z.out w3 HZ.out H3.out.2.2.2.1 H3.out.2.1
  have HD1 := zdone_any H3.out.2.2.1
  have HD2 := zdone_any H3.out.1
  have HR1 := zrest_row H3.out.2.2.1 H3.out.2.2.2.2
  obtain ⟨DN, hDN⟩ : ∃ DN, (z.k == 3) = DN := ⟨_, rfl⟩
  rw [hDN] at HD1 HD2
  clear hDN
  go_wp2_with fail
  refine HSM.mono ?_
  rintro e w4 ⟨rfl, hw⟩
  rw [hw]
  clear hw HSM
  go_wp2_with fail
  refine HD1.mono ?_
  rintro e w4 ⟨rfl, hw⟩
  rw [hw]
  clear hw HD1
  go_wp2_with fail
  refine HD2.mono ?_
  rintro e w4 ⟨rfl, hw⟩
  rw [hw]
  clear hw HD2
  go_wp2_with fail
  refine HR1.mono ?_
  rintro e w4 ⟨au, cu, rfl, hru, hb4⟩
  have H4 : Hid (Row w4 au z.rest ∧ Below w3.heap.size w3 w4 ∧ Below w.heap.size w w4) := ⟨hru, hb4, HB3.out.trans (hb4.mono HB3.out.size)⟩
  have HR2 := zrest_row (H3.out.1.old hb4) H3.out.2.2.2.2
  obtain ⟨RL, hRL⟩ : ∃ RL, z.rest.length = RL := ⟨_, rfl⟩
  have HRL : Hid (z.rest.length = RL) := hRL
  rw [hRL] at HR2 ⊢
  clear hru hb4 HR1 HB3 hRL
  go_wp2_with fail
  refine HR2.mono ?_
  rintro e w5 ⟨av, cv, rfl, hrv, hb5⟩
  have HS2 := same_any au av RL cu cv z.rest w5 HRL.out (H4.out.1.old hb5) hrv
  have HT := ztotal_any ((H3.out.2.2.1.old H4.out.2.1).old hb5)
  rw [HZ.out] at HT
  have HB5 : Hid (Below w.heap.size w w5) := H4.out.2.2.trans (hb5.mono H4.out.2.2.size)
  clear HR2 hrv hb5 H4 H3
  go_wp2_with fail
  refine HS2.mono ?_
  rintro e w6 ⟨rfl, hw⟩
  rw [hw]
  clear hw HS2
  go_wp2_with fail
  refine HT.mono ?_
  rintro e w6 ⟨rfl, hw⟩
  rw [hw]
  clear hw HT
  go_wp2
  go_ret
  exact ⟨rfl, HB5.out⟩
end Go.Proofs.YtloagniacjfkfaaGreatDoor
