/- LZW: bytes pushed at once and in pieces. -/
import Derived.Test.YtcbmlioeeoghkaaLzAb
import Derived.Test.YtcbmlioeeoghkaaLzW
namespace Go.Proofs.Ytcbmlioeeoghkaa
open Go.RowKit
theorem LaPost.open {w w' : World} {bs : List Int} {L n : Nat} {e : Ending} (h : LaPost w bs L n e w') : ∃ S d a c, e = .returned (.tuple #[.slice a (lzO L n bs).out.length c, .int .i64 (lzO L n bs).er, .pointer (some ⟨d, 0, none⟩)]) ∧ LMem w.heap.size w' d L (lzO L n bs) S ∧ Row w' a (lzO L n bs).out ∧ (lzO L n bs).out.length ≤ c ∧ c ≤ 9223372036854775807 ∧ (a = none → c = 0) ∧ Below w.heap.size w w' := by
  obtain ⟨S, d, v, g, he, hm, hs, hg, hb⟩ := h
  obtain ⟨a', c', hv, hle, h2, h3⟩ := hs.shape
  rw [vals_len] at hv hle
  exact ⟨S, d, a', c', by rw [he, hv], hm, hs.row hv, hle, h2, h3, hb⟩
theorem LrPost.open {w w' : World} {z : List Int} {e : Ending} (h : LrPost w z e w') : ∃ a c, e = .returned (.slice a z.length c) ∧ Row w' a z ∧ z.length ≤ c ∧ (a = none → c = 0) ∧ Below w.heap.size w w' := by
  obtain ⟨v, g, he, hs, hg, hb⟩ := h
  obtain ⟨ax, cx, hv, hle, _, h3⟩ := hs.shape
  rw [vals_len] at hv hle
  exact ⟨ax, cx, by rw [he, hv], hs.row hv, hle, h3, hb⟩
set_option maxHeartbeats 3200000 in
set_option maxRecDepth 20000 in
theorem lcuts_walk (a : Option Addr) (len cap : Nat) (s l m : Int) (w : World) (ha : BArg w a len cap) (ws : (Lit.int .u8 s).wf = true) (wl : (Lit.int .u8 l).wf = true) (wm : (Lit.int .u16 m).wf = true) :
    Calls Try.prog 4 #[.slice a len cap, .int .u8 s, .int .u8 l, .int .u16 m] w fun e w' => e = .returned (.bool true) ∧ Below w.heap.size w w' := by
  have hs := bounds_u8 ws
  have hl := bounds_u8 wl
  have hm := bounds_u16 wm
  clear ws wl wm
  obtain ⟨n, rfl⟩ : ∃ n : Nat, m = (n : Int) := ⟨m.toNat, by omega⟩
  obtain ⟨q, rfl⟩ : ∃ q : Nat, s = (q : Int) := ⟨s.toNat, by omega⟩
  obtain ⟨l0, rfl⟩ : ∃ l0 : Nat, l = (l0 : Int) := ⟨l.toNat, by omega⟩
  obtain ⟨A, hA, hAl, hn, hc, hc0, hAr⟩ := ha
  have HA : Hid (Bytes A ∧ Row w a A ∧ (a = none → cap = 0) ∧ A.length = len) := ⟨hA, hAr, hc0, hAl⟩
  clear hA hAr hc0 hAl
  by_cases hbig : 3000 < (len : Int)
  · go_enter Try.func4, Try.ntmps4
    go_wp2_with (go_at_call 9; refine (lfixed_any _).mono ?_; rintro e w1 ⟨rfl, hbel⟩)
    go_ret
    exact ⟨rfl, hbel⟩
  obtain ⟨N, hN⟩ : ∃ N : Nat, 1 + q % 16 = N := ⟨_, rfl⟩
  have hN1 : 1 ≤ N ∧ N ≤ 100 := by omega
  have hNi : (1 : Int) + ((q : Int) % 16) = (N : Int) := by omega
  obtain ⟨L, hLe⟩ : ∃ L : Nat, l0 % 10 = L := ⟨_, rfl⟩
  have hLi : (l0 : Int) % 10 = (L : Int) := by omega
  have hL9 : L ≤ 9 := by omega
  clear hLe hN
  go_enter Try.func4, Try.ntmps4
  go_wp2_with fail
  refine (lfixed_any w).mono ?_
  rintro e w1 ⟨rfl, b1⟩
  have HB1 : Hid (Below w.heap.size w w1) := b1
  clear b1
  by_cases hL : 2 ≤ L ∧ L ≤ 8
  · have C1 := lall_any a len cap A 4000 L (n : Int) w1 hL HA.out.2.2.2 (HA.out.2.1.old HB1.out) HA.out.1 hn (by omega) HA.out.2.2.1 (by omega) (lzO_rests hL.2 _ A (by have := HA.out; omega)) (by omega) (by omega) (by omega)
    have en : (n : Int).toNat = n := by simp
    rw [en] at C1
    go_wp2_with fail
    refine C1.mono ?_
    rintro e w2 hp
    obtain ⟨S, d, ax, cx, rfl, hd, hrow, hcx, _, _, b2⟩ := hp.open
    have H2 : Hid (LMem w1.heap.size w2 d L (lzO L n A) S ∧ Row w2 ax (lzO L n A).out) := ⟨hd, hrow⟩
    have HB2 : Hid (Below w.heap.size w w2) := HB1.out.trans (b2.mono HB1.out.size)
    have HP2 := lall_any a len cap A N L (n : Int) w2 hL HA.out.2.2.2 (HA.out.2.1.old HB2.out) HA.out.1 hn (by omega) HA.out.2.2.1 (by omega) (lzO_rests hL.2 _ A (by have := HA.out; omega)) (by omega) hN1.1 (by omega)
    rw [en] at HP2
    have hzb := lzO_out hL.2 n A
    have hrb := lzO_rest hL.2 n A
    obtain ⟨z, hz⟩ : ∃ z, lzO L n A = z := ⟨_, rfl⟩
    rw [hz] at H2 hzb hrb ⊢
    have HZ0 : Hid (lzO L n A = z) := hz
    obtain ⟨ER, hER⟩ : ∃ ER, z.er = ER := ⟨_, rfl⟩
    have HER : Hid (z.er = ER) := hER
    obtain ⟨Z, hZ⟩ : ∃ Z, z.out.length = Z := ⟨_, rfl⟩
    have HZ : Hid (z.out.length = Z) := hZ
    have hZl : Z ≤ 65535 := by omega
    have HRB : Hid (z.rest.length ≤ 140737488351232) := by have := HA.out; show _ ≤ _; omega
    rw [hER, hZ]
    clear C1 hp hd hrow b2 HB1 hER hZ hcx hzb hrb hz en
    go_wp2_with fail
    refine HP2.mono ?_
    rintro e w3 hp
    obtain ⟨S2, d2, ay, cy, rfl, hd, hrow, hcy, _, _, b3⟩ := hp.open
    rw [HZ0.out] at hd hrow hcy ⊢
    have H3 : Hid (LMem w2.heap.size w3 d2 L z S2 ∧ Row w3 ay z.out ∧ LMem w1.heap.size w3 d L z S ∧ Row w3 ax z.out) := ⟨hd, hrow, H2.out.1.old b3, H2.out.2.old b3⟩
    have HB3 : Hid (Below w.heap.size w w3) := HB2.out.trans (b3.mono HB2.out.size)
    rw [HER.out, HZ.out]
    clear HP2 hp hd hrow hcy b3 H2 HB2
    have HSM := same_any ax ay Z cx cy z.out w3 HZ.out H3.out.2.2.2 H3.out.2.1
    have HD1 := ldone_any H3.out.2.2.1
    have HD2 := ldone_any H3.out.1
    have HR1 := lrest_any H3.out.2.2.1 HRB.out
    obtain ⟨DN, hDN⟩ : ∃ DN, (z.k == 1) = DN := ⟨_, rfl⟩
    rw [hDN] at HD1 HD2
    clear hDN
    go_wp2_with fail
    refine HSM.mono ?_
    rintro e w4 ⟨rfl, hw⟩
    rw [hw]
    clear hw HSM
    go_wp2_with fail
    refine HD1.mono ?_
    rintro e w4 ⟨rfl, hw⟩
    rw [hw]
    clear hw HD1
    go_wp2_with fail
    refine HD2.mono ?_
    rintro e w4 ⟨rfl, hw⟩
    rw [hw]
    clear hw HD2
    go_wp2_with fail
    refine HR1.mono ?_
    rintro e w4 hp
    obtain ⟨au, cu, rfl, hru, _, _, hb4⟩ := hp.open
    have H4 : Hid (Row w4 au z.rest ∧ Below w3.heap.size w3 w4 ∧ Below w.heap.size w w4) := ⟨hru, hb4, HB3.out.trans (hb4.mono HB3.out.size)⟩
    have HR2 := lrest_any (H3.out.1.old hb4) HRB.out
    obtain ⟨RL, hRL⟩ : ∃ RL, z.rest.length = RL := ⟨_, rfl⟩
    have HRL : Hid (z.rest.length = RL) := hRL
    rw [hRL]
    clear hru hb4 HR1 HB3 hRL hp
    go_wp2_with fail
    refine HR2.mono ?_
    rintro e w5 hp
    obtain ⟨av, cv, rfl, hrv, _, _, hb5⟩ := hp.open
    have HS2 := same_any au av RL cu cv z.rest w5 HRL.out (H4.out.1.old hb5) hrv
    have HB5 : Hid (Below w.heap.size w w5) := H4.out.2.2.trans (hb5.mono H4.out.2.2.size)
    rw [HRL.out]
    clear HR2 hrv hb5 H4 H3 hp
    go_wp2_with fail
    refine HS2.mono ?_
    rintro e w6 ⟨rfl, hw⟩
    rw [hw]
    clear hw HS2
    go_wp2
    go_ret
    exact ⟨rfl, HB5.out⟩
  · have hLb : ¬ (2 ≤ (L : Int) ∧ (L : Int) ≤ 8) := by omega
    have C1 := lall_bad a len cap 4000 (L : Int) (n : Int) w1 hLb hn (by omega)
    go_wp2_with fail
    refine C1.mono ?_
    clear C1
    rintro e w2 ⟨d, ax, cx, rfl, hd, b2⟩
    have HB2 : Hid (Below w.heap.size w w2) := HB1.out.trans (b2.mono HB1.out.size)
    have HP2 := lall_bad a len cap N (L : Int) (n : Int) w2 hLb hn (by omega)
    have HD : Hid (LBad w2 d L) := hd
    clear hd b2 HB1
    go_wp2_with fail
    refine HP2.mono ?_
    clear HP2
    rintro e w3 ⟨d2, ay, cy, rfl, hd, b3⟩
    have hd1 : LBad w3 d L := by obtain ⟨lf, h⟩ := HD.out; exact ⟨lf, (b3.block _ (lt_of_block h)).trans h⟩
    have HB3 : Hid (Below w.heap.size w w3) := HB2.out.trans (b3.mono HB2.out.size)
    have HSM := same_any ax ay 0 cx cy [] w3 rfl (.inl rfl) (.inl rfl)
    have HD1 := ldone_bad hd1
    have HD2 := ldone_bad hd
    have HR1 := lrest_bad hd1
    have HDD : Hid (LBad w3 d2 L) := hd
    clear hd hd1 b3 HB2 HD
    go_wp2_with fail
    refine HSM.mono ?_
    rintro e w4 ⟨rfl, hw⟩
    rw [hw]
    clear hw HSM
    go_wp2_with fail
    refine HD1.mono ?_
    rintro e w4 ⟨rfl, hw⟩
    rw [hw]
    clear hw HD1
    go_wp2_with fail
    refine HD2.mono ?_
    rintro e w4 ⟨rfl, hw⟩
    rw [hw]
    clear hw HD2
    go_wp2_with fail
    refine HR1.mono ?_
    rintro e w4 hp
    obtain ⟨au, cu, rfl, hru, _, _, hb4⟩ := hp.open
    have HB4 : Hid (Below w.heap.size w w4) := HB3.out.trans (hb4.mono HB3.out.size)
    have hd4 : LBad w4 d2 L := by obtain ⟨lf, h⟩ := HDD.out; exact ⟨lf, (hb4.block _ (lt_of_block h)).trans h⟩
    have HR2 := lrest_bad hd4
    simp only [List.length_nil]
    clear hru hb4 HR1 HB3 hp hd4 HDD
    go_wp2_with fail
    refine HR2.mono ?_
    rintro e w5 hp
    obtain ⟨av, cv, rfl, hrv, _, _, hb5⟩ := hp.open
    have HS2 := same_any au av 0 cu cv [] w5 rfl (.inl rfl) (.inl rfl)
    have HB5 : Hid (Below w.heap.size w w5) := HB4.out.trans (hb5.mono HB4.out.size)
    simp only [List.length_nil]
    clear HR2 hrv hb5 HB4 hp
    go_wp2_with fail
    refine HS2.mono ?_
    rintro e w6 ⟨rfl, hw⟩
    rw [hw]
    clear hw HS2
    go_wp2
    go_ret
    exact ⟨rfl, HB5.out⟩
end Go.Proofs.Ytcbmlioeeoghkaa
