/- Nil stores, and a crash: the laws' walks. -/
import Derived.Test.YtinmkhdangknbaaTkK
import Derived.Test.YtinmkhdangknbaaArgB
namespace Go.Proofs.Ytinmkhdangknbaa
open Go.RowKit
theorem below_drewT (w : World) : Below w.heap.size w w.drew := ⟨rfl, rfl, rfl, Nat.le_refl _, fun _ _ => rfl⟩
theorem BArg.bok {w : World} {a : Option Addr} {n c : Nat} (h : BArg w a n c) : ∃ A, BOk w a n c A := by
  obtain ⟨A, h1, h2, h3, h4, h5, h6⟩ := h
  exact ⟨A, h2, h1, h3, ⟨by omega, by omega⟩, h5, h6⟩
set_option maxHeartbeats 3200000 in
theorem tnil_walk (a : Option Addr) (len cap : Nat) (k : Bool) (w : World) (_w : BArg w a len cap) (_k : True) : Calls Try.prog 8 #[.slice a len cap, .bool k] w fun e w' => e = .returned (.bool true) ∧ Below w.heap.size w w' := by
  have HF := tfixed_any w
  have C1 := fun u => put_nil (.slice a len cap) u
  go_enter Try.func8, Try.ntmps8
  go_wp2_with (first
    | (go_at_call 9; refine Calls.mono HF ?_; rintro e w1 ⟨rfl, hb⟩; have HB : Hid (Below w.heap.size w w1) := hb; clear hb)
    | (go_at_call 19; refine Calls.mono (C1 _) ?_; rintro e w' ⟨rfl, rfl⟩)
    | (go_at_call 21; refine Calls.mono (settle_nil _) ?_; rintro e w' ⟨rfl, rfl⟩)
    | (go_at_call 23; refine Calls.mono (crash_nil k _) ?_; rintro e w' ⟨rfl, rfl⟩)
    | (go_at_call 24; refine Calls.mono (get_nil _) ?_; rintro e w' ⟨rfl, rfl⟩)
    | (go_at_call 25; refine Calls.mono (busy_nil _) ?_; rintro e w' ⟨rfl, rfl⟩))
  go_ret
  exact ⟨rfl, HB.out⟩
/-- What stands between two calls of the law on a crash. -/
structure CrI (w : World) (b : Nat) (K B : Pt) (s : Bool) (wr : World) : Prop where
  ps : PS wr b K B s
  be : Below w.heap.size w wr
  fr : w.heap.size ≤ b
theorem CrI.grown {w wr w' : World} {b : Nat} {K B K' B' : Pt} {s s' : Bool} (h : CrI w b K B s wr) (p : PS w' b K' B' s') (g : wr.grownBy w' (some b)) : CrI w b K' B' s' w' := ⟨p, h.be.grown g h.be.size (fun k hk => by cases hk; exact h.fr), h.fr⟩
theorem CrI.old {w wr w' : World} {b : Nat} {K B : Pt} {s : Bool} (h : CrI w b K B s wr) (g : Below wr.heap.size wr w') : CrI w b K B s w' := ⟨h.ps.old g, h.be.trans (g.mono h.be.size), h.fr⟩
set_option maxHeartbeats 6400000 in
theorem tcrash_yes (a : Option Addr) (al ac : Nat) (b : Option Addr) (bl bc : Nat) (c : Option Addr) (cl cc : Nat) (A B C : List Int) (w : World) (ha : BOk w a al ac A) (hb : BOk w b bl bc B) (_hc : BOk w c cl cc C) : Calls Try.prog 7 #[.slice a al ac, .slice b bl bc, .slice c cl cc, .bool true] w fun e w' => e = .returned (.bool true) ∧ Below w.heap.size w w' := by
  have HF := tfixed_any w
  have HA : Hid (BOk w a al ac A) := ha
  have HBb : Hid (BOk w b bl bc B) := hb
  clear ha hb _hc
  go_enter Try.func7, Try.ntmps7
  go_upto_region 3 with (go_at_call 9; refine Calls.mono HF ?_; rintro e w1 ⟨rfl, hb⟩; have HB1 : Hid (Below w.heap.size w w1) := hb; clear hb HF)
  go_upto_region 4 with (go_at_call 18; refine Calls.mono (store_new w1) ?_; rintro e w2 ⟨s, rfl, p2, b2, f2⟩)
  have HI2 : Hid (CrI w s hPt0 hPt0 false w2) := ⟨p2, HB1.out.trans (b2.mono HB1.out.size), Nat.le_trans HB1.out.size f2⟩
  clear p2 b2 f2 HB1
  have C3 : Hid _ := put_ok HI2.out.ps (HA.out.old HI2.out.be)
  go_upto_region 5 with (go_at_call 19; refine Calls.mono C3.out ?_; rintro e w3 ⟨Q, rfl, hq, p3, g3, f3⟩)
  have HI3 : Hid (CrI w s hPt0 Q true w3) := HI2.out.grown p3 g3
  have HQ : Hid (Q.z = A) := hq
  clear hq p3 g3 f3 C3 HI2
  have C4 : Hid _ := settle_yes HI3.out.ps
  go_upto_region 6 with (go_at_call 21; refine Calls.mono C4.out ?_; rintro e w4 ⟨rfl, p4, g4⟩)
  have HI4 : Hid (CrI w s Q hPt0 false w4) := HI3.out.grown p4 g4
  clear p4 g4 C4 HI3
  have C5 : Hid _ := put_ok HI4.out.ps (HBb.out.old HI4.out.be)
  go_upto_region 7 with (go_at_call 19; refine Calls.mono C5.out ?_; rintro e w5 ⟨R, rfl, hr, p5, g5, f5⟩)
  have HI5 : Hid (CrI w s Q R true w5) := HI4.out.grown p5 g5
  have HR : Hid (R.z = B) := hr
  clear hr p5 g5 f5 C5 HI4
  have C6 : Hid _ := put_busy HI5.out.ps (.slice c cl cc)
  go_upto_region 8 with (go_at_call 19; refine Calls.mono C6.out ?_; rintro e x ⟨rfl, hx⟩; have hx2 := hx.symm; clear hx; subst hx2)
  have C7 : Hid _ := get_any HI5.out.ps
  clear C6
  go_upto_region 9 with (go_at_call 24; refine Calls.mono C7.out ?_; rintro e w7 ⟨q, rfl, hq, pq, b7, -⟩)
  have HI7 : Hid (CrI w s Q R true w7) := HI5.out.old b7
  have HW : Hid (q.z = A ∧ PtOk w7 q) := ⟨hq.trans HQ.out, pq⟩
  clear hq pq b7 C7 HI5
  have C8 : Hid _ := crash_yes HI7.out.ps true
  go_upto_region 10 with (go_at_call 23; refine Calls.mono C8.out ?_; rintro e w8 ⟨rfl, p8, g8⟩)
  have HI8 : Hid (CrI w s R hPt0 false w8) := HI7.out.grown p8 g8
  have HW8 : Hid (q.z = A ∧ PtOk w8 q) := ⟨HW.out.1, PtOk.keep HI7.out.ps.ce HW.out.2 g8⟩
  clear p8 g8 C8 HI7 HW
  have hlq : q.z.length = al := by rw [HW8.out.1]; exact HA.out.1
  unfold ptV
  rw [hlq]
  have hrq : Row w8 q.a A := by rw [← HW8.out.1]; exact HW8.out.2.2.2.2.2
  have C9 : Hid _ := same_any q.a a al q.c ac A w8 HA.out.1 hrq (HA.out.2.2.2.2.2.old HI8.out.be)
  clear hrq hlq
  go_wp2_with (first
    | (go_at_call 12; refine Calls.mono C9.out ?_; rintro e x ⟨rfl, hx⟩; have hx2 := hx.symm; clear hx; subst hx2; clear C9)
    | (go_at_call 24; refine Calls.mono (get_any HI8.out.ps) ?_; rintro e wa ⟨z, rfl, hz, pz, ba, -⟩; have HIa : Hid (CrI w s R hPt0 false wa) := HI8.out.old ba; have hzw : z.z = B := hz.trans HR.out; have hlz : z.z.length = bl := (by rw [hzw]; exact HBb.out.1); have hrz : Row wa z.a B := (by rw [← hzw]; exact pz.2.2.2.2); have Ca : Hid _ := same_any z.a b bl z.c bc B wa HBb.out.1 hrz (HBb.out.2.2.2.2.2.old HIa.out.be); unfold ptV; rw [hlz]; clear hz pz ba hzw hlz hrz)
    | (go_at_call 12; refine Calls.mono Ca.out ?_; rintro e x ⟨rfl, hx⟩; have hx2 := hx.symm; clear hx; subst hx2)
    | (go_at_call 25; refine Calls.mono (busy_any HIa.out.ps) ?_; rintro e x ⟨rfl, hx⟩; have hx2 := hx.symm; clear hx; subst hx2))
  go_ret
  exact ⟨by simp, HIa.out.be⟩
set_option maxHeartbeats 6400000 in
theorem tcrash_no (a : Option Addr) (al ac : Nat) (b : Option Addr) (bl bc : Nat) (c : Option Addr) (cl cc : Nat) (A B C : List Int) (w : World) (ha : BOk w a al ac A) (hb : BOk w b bl bc B) (_hc : BOk w c cl cc C) : Calls Try.prog 7 #[.slice a al ac, .slice b bl bc, .slice c cl cc, .bool false] w fun e w' => e = .returned (.bool true) ∧ Below w.heap.size w w' := by
  have HF := tfixed_any w
  have HA : Hid (BOk w a al ac A) := ha
  have HBb : Hid (BOk w b bl bc B) := hb
  clear ha hb _hc
  go_enter Try.func7, Try.ntmps7
  go_upto_region 3 with (go_at_call 9; refine Calls.mono HF ?_; rintro e w1 ⟨rfl, hb⟩; have HB1 : Hid (Below w.heap.size w w1) := hb; clear hb HF)
  go_upto_region 4 with (go_at_call 18; refine Calls.mono (store_new w1) ?_; rintro e w2 ⟨s, rfl, p2, b2, f2⟩)
  have HI2 : Hid (CrI w s hPt0 hPt0 false w2) := ⟨p2, HB1.out.trans (b2.mono HB1.out.size), Nat.le_trans HB1.out.size f2⟩
  clear p2 b2 f2 HB1
  have C3 : Hid _ := put_ok HI2.out.ps (HA.out.old HI2.out.be)
  go_upto_region 5 with (go_at_call 19; refine Calls.mono C3.out ?_; rintro e w3 ⟨Q, rfl, hq, p3, g3, f3⟩)
  have HI3 : Hid (CrI w s hPt0 Q true w3) := HI2.out.grown p3 g3
  have HQ : Hid (Q.z = A) := hq
  clear hq p3 g3 f3 C3 HI2
  have C4 : Hid _ := settle_yes HI3.out.ps
  go_upto_region 6 with (go_at_call 21; refine Calls.mono C4.out ?_; rintro e w4 ⟨rfl, p4, g4⟩)
  have HI4 : Hid (CrI w s Q hPt0 false w4) := HI3.out.grown p4 g4
  clear p4 g4 C4 HI3
  have C5 : Hid _ := put_ok HI4.out.ps (HBb.out.old HI4.out.be)
  go_upto_region 7 with (go_at_call 19; refine Calls.mono C5.out ?_; rintro e w5 ⟨R, rfl, hr, p5, g5, f5⟩)
  have HI5 : Hid (CrI w s Q R true w5) := HI4.out.grown p5 g5
  have HR : Hid (R.z = B) := hr
  clear hr p5 g5 f5 C5 HI4
  have C6 : Hid _ := put_busy HI5.out.ps (.slice c cl cc)
  go_upto_region 8 with (go_at_call 19; refine Calls.mono C6.out ?_; rintro e x ⟨rfl, hx⟩; have hx2 := hx.symm; clear hx; subst hx2)
  have C7 : Hid _ := get_any HI5.out.ps
  clear C6
  go_upto_region 9 with (go_at_call 24; refine Calls.mono C7.out ?_; rintro e w7 ⟨q, rfl, hq, pq, b7, -⟩)
  have HI7 : Hid (CrI w s Q R true w7) := HI5.out.old b7
  have HW : Hid (q.z = A ∧ PtOk w7 q) := ⟨hq.trans HQ.out, pq⟩
  clear hq pq b7 C7 HI5
  have C8 : Hid _ := crash_yes HI7.out.ps false
  go_upto_region 10 with (go_at_call 23; refine Calls.mono C8.out ?_; rintro e w8 ⟨rfl, p8, g8⟩)
  have HI8 : Hid (CrI w s Q hPt0 false w8) := HI7.out.grown p8 g8
  have HW8 : Hid (q.z = A ∧ PtOk w8 q) := ⟨HW.out.1, PtOk.keep HI7.out.ps.ce HW.out.2 g8⟩
  clear p8 g8 C8 HI7 HW
  have hlq : q.z.length = al := by rw [HW8.out.1]; exact HA.out.1
  unfold ptV
  rw [hlq]
  have hrq : Row w8 q.a A := by rw [← HW8.out.1]; exact HW8.out.2.2.2.2.2
  have C9 : Hid _ := same_any q.a a al q.c ac A w8 HA.out.1 hrq (HA.out.2.2.2.2.2.old HI8.out.be)
  clear hrq hlq
  go_wp2_with (first
    | (go_at_call 12; refine Calls.mono C9.out ?_; rintro e x ⟨rfl, hx⟩; have hx2 := hx.symm; clear hx; subst hx2; clear C9)
    | (go_at_call 24; refine Calls.mono (get_any HI8.out.ps) ?_; rintro e wa ⟨z, rfl, hz, pz, ba, -⟩; have HIa : Hid (CrI w s Q hPt0 false wa) := HI8.out.old ba; have hzw : z.z = A := hz.trans HQ.out; have hlz : z.z.length = al := (by rw [hzw]; exact HA.out.1); have hrz : Row wa z.a A := (by rw [← hzw]; exact pz.2.2.2.2); have Ca : Hid _ := same_any z.a a al z.c ac A wa HA.out.1 hrz (HA.out.2.2.2.2.2.old HIa.out.be); unfold ptV; rw [hlz]; clear hz pz ba hzw hlz hrz)
    | (go_at_call 12; refine Calls.mono Ca.out ?_; rintro e x ⟨rfl, hx⟩; have hx2 := hx.symm; clear hx; subst hx2)
    | (go_at_call 25; refine Calls.mono (busy_any HIa.out.ps) ?_; rintro e x ⟨rfl, hx⟩; have hx2 := hx.symm; clear hx; subst hx2))
  go_ret
  exact ⟨by simp, HIa.out.be⟩
theorem tcrash_walk (a : Option Addr) (al ac : Nat) (b : Option Addr) (bl bc : Nat) (c : Option Addr) (cl cc : Nat) (k : Bool) (w : World) (ha : BArg w a al ac) (hb : BArg w b bl bc) (hc : BArg w c cl cc) (_k : True) : Calls Try.prog 7 #[.slice a al ac, .slice b bl bc, .slice c cl cc, .bool k] w fun e w' => e = .returned (.bool true) ∧ Below w.heap.size w w' := by
  obtain ⟨A, hA⟩ := ha.bok
  obtain ⟨B, hB⟩ := hb.bok
  obtain ⟨C, hC⟩ := hc.bok
  cases k
  · exact tcrash_no a al ac b bl bc c cl cc A B C w hA hB hC
  · exact tcrash_yes a al ac b bl bc c cl cc A B C w hA hB hC
end Go.Proofs.Ytinmkhdangknbaa
