/- Joined: Dp1 Dp2 Dp3 Dp4. -/
import Derived.Test.YtloagniacjfkfaaGreatDoorQW
import Derived.Test.YtloagniacjfkfaaGreatDoorQF
import Derived.Test.YtloagniacjfkfaaGreatDoorQP
/- deflate's packer: its head and what is stored. -/
namespace Go.Proofs.YtloagniacjfkfaaGreatDoor
open Go.RowKit
theorem wrapD (v m : Nat) (hv : v < 2 ^ m) (hm : m ≤ 32) : IntKind.u64.wrap (v : Int) % 2 ^ m = v := by
  have h2 : (2 : Nat) ^ m ≤ 2 ^ 32 := Nat.pow_le_pow_right (by omega) hm
  have h3 : v < 4294967296 := Nat.lt_of_lt_of_le hv (by simpa using h2)
  rw [IntKind.wrap_u64, show ((v : Int)) % 18446744073709551616 = v by omega]
  rw [Int.emod_eq_of_lt (by omega)]
  have : ((v : Nat) : Int) < ((2 ^ m : Nat) : Int) := by exact_mod_cast hv
  rwa [Int.natCast_pow] at this
/-- A number that fits is put. -/
theorem put_nat (r : Nat) (g : Option Nat) (zs : List Int) (W : Int) (count m v : Nat) (w : World) (h : WrZ w r g zs count) (hz : Bitz zs W count) (hcb : count ≤ 1000000) (hm1 : 1 ≤ m) (hm : m ≤ 32) (hv : v < 2 ^ m) :
    Calls Tryz.prog 79 #[.pointer (some ⟨r, 0, none⟩), .int .i64 v, .int .i64 m] w fun e w' => ∃ zs', Bitz zs' (W + v * 2 ^ count) (count + m) ∧ WrPost w r g zs' (count + m) e w' := by
  have := put_yes r g zs W count m v m w h hz hcb (by omega) (by omega)
  rwa [wrapD v m hv hm] at this
/-- The packer at block p: its writer x, its places s. -/
def PK (w : World) (p x s : Nat) (how : Int) : Prop := w.heap[p]? = some (.cells #[.pointer (some ⟨x, 0, none⟩), .pointer (some ⟨s, 0, none⟩), .int .i64 how] 70 (0, 0))
section
variable {w w' : World} {p x s : Nat} {how : Int} {g : Option Nat} {zs : List Int} {count : Nat}
theorem PK.cells (h : PK w p x s how) : w.cell? ⟨p, 0, none⟩ = some (.pointer (some ⟨x, 0, none⟩)) ∧ w.cell? ⟨p, 1, none⟩ = some (.pointer (some ⟨s, 0, none⟩)) ∧ w.cell? ⟨p, 2, none⟩ = some (.int .i64 how) := by
  unfold PK at h
  refine ⟨?_, ?_, ?_⟩ <;> simp [World.cell?, h]
theorem PK.lt (h : PK w p x s how) : p < w.heap.size := lt_of_block h
theorem PK.same (h : PK w p x s how) (hs : w'.heap[p]? = w.heap[p]?) : PK w' p x s how := hs.trans h
theorem PK.nex (h : PK w p x s how) (hw : WrZ w x g zs count) : p ≠ x := by
  rintro rfl
  obtain ⟨v, hh, _⟩ := hw
  unfold PK at h
  rw [h] at hh
  simp at hh
theorem PK.neg (h : PK w p x s how) (hw : WrZ w x g zs count) : some p ≠ g := by
  intro e
  obtain ⟨v, _, hs⟩ := hw
  rcases hs with ⟨_, h2, _⟩ | ⟨b, off, cap, cur, _, h2, hh, _⟩
  · rw [h2] at e; cases e
  · rw [h2] at e; cases e
    unfold PK at h
    rw [h] at hh
    simp at hh
/-- The writer's work leaves the packer as it is. -/
theorem PK.fr (h : PK w p x s how) (hw : WrZ w x g zs count) (hf : Fr w w' x g) : PK w' p x s how := h.same (hf.block p h.lt (h.nex hw) (h.neg hw))
end
/-- What writing leaves: the writer has these bits. -/
def WzPost (w : World) (x : Nat) (g : Option Nat) (W : Int) (count : Nat) (e : Ending) (w' : World) : Prop :=
  e = .returned (.tuple #[]) ∧ ∃ g' zs', WrZ w' x g' zs' count ∧ Bitz zs' W count ∧ (g' = g ∨ ∃ k, g' = some k ∧ w.heap.size ≤ k) ∧ Fr w w' x g
theorem WzPost.of {w : World} {x : Nat} {g : Option Nat} {zs' : List Int} {W : Int} {count : Nat} {e : Ending} {w' : World} (hz : Bitz zs' W count) (h : WrPost w x g zs' count e w') : WzPost w x g W count e w' := by
  obtain ⟨rfl, g', h1, h2, h3⟩ := h
  exact ⟨rfl, g', zs', h1, hz, h2, h3⟩
theorem or_trans {g1 g2 g3 : Option Nat} {n m : Nat} (h1 : g2 = g1 ∨ ∃ k, g2 = some k ∧ n ≤ k) (h2 : g3 = g2 ∨ ∃ k, g3 = some k ∧ m ≤ k) (hnm : n ≤ m) : g3 = g1 ∨ ∃ k, g3 = some k ∧ n ≤ k := by
  rcases h2 with rfl | ⟨k, rfl, hk⟩
  · exact h1
  · exact .inr ⟨k, rfl, by omega⟩
set_option maxHeartbeats 800000 in
set_option maxRecDepth 20000 in
theorem dhead_any (p x s : Nat) (how : Int) (kind : Nat) (hk : kind ≤ 2) (last : Bool) (w : World) (g : Option Nat) (zs : List Int) (W : Int) (count : Nat) (hp : PK w p x s how) (hw : WrZ w x g zs count) (hz : Bitz zs W count) (hc : count ≤ 999990) :
    Calls Tryz.prog 61 #[.pointer (some ⟨p, 0, none⟩), .int .i64 kind, .bool last] w fun e w' => WzPost w x g (W + (if last then 1 else 0) * 2 ^ count + kind * 2 ^ (count + 1)) (count + 3) e w' := by
  obtain ⟨k0, k1, k2⟩ := hp.cells
  have HP : Hid (PK w p x s how ∧ WrZ w x g zs count) := ⟨hp, hw⟩
  have C1 : ∀ b : Nat, b < 2 → Calls Tryz.prog 79 #[.pointer (some ⟨x, 0, none⟩), .int .i64 b, .int .i64 1] w fun e w' => ∃ zs', Bitz zs' (W + b * 2 ^ count) (count + 1) ∧ WrPost w x g zs' (count + 1) e w' := fun b hb => put_nat x g zs W count 1 b w hw hz (by omega) (by omega) (by omega) (by simpa using hb)
  have HC2 : Hid (∀ (b : Nat) (zs1 : List Int) (g1 : Option Nat) (w1 : World), Bitz zs1 (W + b * 2 ^ count) (count + 1) → WrZ w1 x g1 zs1 (count + 1) → (g1 = g ∨ ∃ k, g1 = some k ∧ w.heap.size ≤ k) → Fr w w1 x g → PK w1 p x s how ∧ Calls Tryz.prog 79 #[.pointer (some ⟨x, 0, none⟩), .int .i64 kind, .int .i64 2] w1 fun e w' => WzPost w x g (W + b * 2 ^ count + kind * 2 ^ (count + 1)) (count + 3) e w') := by
    intro b zs1 g1 w1 h1 h2 h3 h4
    refine ⟨HP.out.1.fr HP.out.2 h4, (put_nat x g1 zs1 _ (count + 1) 2 kind w1 h2 h1 (by omega) (by omega) (by omega) (by show kind < 4; omega)).mono ?_⟩
    rintro e w2 ⟨zs2, hz2, rfl, g2, hw2, hg2, hf2⟩
    exact ⟨rfl, g2, zs2, hw2, hz2, or_trans h3 hg2 h4.size, h4.trans hf2 h3⟩
  clear hp hw hz HP
  cases last with
  | true =>
    have C1' := C1 1 (by omega)
    simp only [Int.natCast_one] at C1'
    clear C1
    go_enter Tryz.func61, Tryz.ntmps61
    go_wp2_with fail
    refine C1'.mono ?_
    rintro e w1 ⟨zs1, hz1, rfl, g1, hw1, hg1, hf1⟩
    obtain ⟨hp1, C2⟩ := HC2.out 1 zs1 g1 w1 (by simpa using hz1) hw1 hg1 hf1
    obtain ⟨q0, q1, q2⟩ := hp1.cells
    clear hz1 hw1 hg1 hf1 hp1 HC2 k0 k1 k2 C1'
    go_wp2_with fail
    refine C2.mono ?_
    rintro e w2 ⟨rfl, h2⟩
    clear C2
    go_wp2
    go_end0
    exact ⟨rfl, by simpa using h2⟩
  | false =>
    have C1' := C1 0 (by omega)
    simp only [Int.natCast_zero] at C1'
    clear C1
    go_enter Tryz.func61, Tryz.ntmps61
    go_wp2_with fail
    refine C1'.mono ?_
    rintro e w1 ⟨zs1, hz1, rfl, g1, hw1, hg1, hf1⟩
    obtain ⟨hp1, C2⟩ := HC2.out 0 zs1 g1 w1 (by simpa using hz1) hw1 hg1 hf1
    obtain ⟨q0, q1, q2⟩ := hp1.cells
    clear hz1 hw1 hg1 hf1 hp1 HC2 k0 k1 k2 C1'
    go_wp2_with fail
    refine C2.mono ?_
    rintro e w2 ⟨rfl, h2⟩
    clear C2
    go_wp2
    go_end0
    exact ⟨rfl, by simpa using h2⟩
end Go.Proofs.YtloagniacjfkfaaGreatDoor
/- deflate's packer: bytes that are stored. -/
namespace Go.Proofs.YtloagniacjfkfaaGreatDoor
open Go.RowKit
def alW (count : Nat) : Nat := 8 * ((count + 10) / 8)
def stW (W : Int) (count : Nat) (last : Bool) (bs : List Int) (i : Nat) : Int :=
  W + (if last then 1 else 0) * 2 ^ count + (bs.length : Int) * 2 ^ alW count + (65535 - (bs.length : Int)) * 2 ^ (alW count + 16) + litN (bs.take i) * 2 ^ (alW count + 32)
theorem stW_succ (W : Int) (count : Nat) (last : Bool) (bs : List Int) (i : Nat) (hi : i < bs.length) : stW W count last bs (i + 1) = stW W count last bs i + (bs[i]?.getD 0) * 2 ^ (alW count + 32 + 8 * i) := by
  have h1 : bs.take (i + 1) = bs.take i ++ [bs[i]?.getD 0] := by
    rw [List.take_add_one, List.getElem?_eq_getElem hi]; rfl
  have h2 : litN [bs[i]?.getD 0] = bs[i]?.getD 0 := by simp [litN]
  have h3 : (256 : Int) ^ i = 2 ^ (8 * i) := by rw [Int.pow_mul]; rfl
  unfold stW
  rw [h1, litN_append, h2, List.length_take, Nat.min_eq_left (by omega), h3, Int.pow_add 2 (alW count + 32) (8 * i), Int.add_mul, ← Int.add_assoc]
  congr 1
  rw [Int.mul_comm (2 ^ (8 * i)) (bs[i]?.getD 0), Int.mul_assoc, Int.mul_comm (2 ^ (8 * i))]
structure StRel (w : World) (p x s : Nat) (how : Int) (g : Option Nat) (W : Int) (count : Nat) (last : Bool) (bs : List Int) (i : Nat) (wr : World) : Prop where
  pk : PK wr p x s how
  wz : ∃ g' zs', WrZ wr x g' zs' (alW count + 32 + 8 * i) ∧ Bitz zs' (stW W count last bs i) (alW count + 32 + 8 * i) ∧ (g' = g ∨ ∃ k, g' = some k ∧ w.heap.size ≤ k)
  fr : Fr w wr x g
set_option maxHeartbeats 1600000 in
set_option maxRecDepth 20000 in
theorem dstore_any (p x s : Nat) (how : Int) (last : Bool) (bs : List Int) (a : Option Addr) (m c : Nat) (w : World) (g : Option Nat) (zs : List Int) (W : Int) (count : Nat) (hp : PK w p x s how) (hw : WrZ w x g zs count) (hz : Bitz zs W count) (hc : count + 8 * bs.length ≤ 999900) (hm : bs.length = m) (hmc : m ≤ c) (hm6 : m ≤ 65535) (hby : Bytes bs)
    (hrow : Row w a bs) (hap : ∀ q, a = some q → bs ≠ [] → q.block ≠ x ∧ some q.block ≠ g) :
    Calls Tryz.prog 55 #[.pointer (some ⟨p, 0, none⟩), .slice a m c, .bool last] w fun e w' => WzPost w x g (stW W count last bs bs.length) (alW count + 32 + 8 * bs.length) e w' := by
  have C1 := dhead_any p x s how 0 (by omega) last w g zs W count hp hw hz (by omega)
  simp only [Int.natCast_zero, Int.zero_mul, Int.add_zero] at C1
  have HP : Hid (PK w p x s how ∧ WrZ w x g zs count ∧ Row w a bs ∧ Bytes bs ∧ (∀ q, a = some q → bs ≠ [] → q.block ≠ x ∧ some q.block ≠ g) ∧ bs.length = m ∧ count + 8 * bs.length ≤ 999900) := ⟨hp, hw, hrow, hby, hap, hm, hc⟩
  clear hp hw hz hrow hby hap hm hc
  go_enter Tryz.func55, Tryz.ntmps55
  go_wp2_with fail
  refine C1.mono ?_
  rintro e w1 ⟨rfl, g1, zs1, hw1, hz1, hg1, hf1⟩
  have hp1 := HP.out.1.fr HP.out.2.1 hf1
  obtain ⟨k0, k1, k2⟩ := hp1.cells
  have C2 := alignW_any x g1 zs1 _ w1 hw1 (by have := hz1.2.1; have := HP.out; omega)
  have HZ1 : Hid (Bitz zs1 (W + (if last then 1 else 0) * 2 ^ count) (count + 3) ∧ PK w1 p x s how ∧ WrZ w1 x g1 zs1 (count + 3) ∧ (g1 = g ∨ ∃ k, g1 = some k ∧ w.heap.size ≤ k) ∧ Fr w w1 x g) := ⟨hz1, hp1, hw1, hg1, hf1⟩
  clear C1 hw1 hz1 hg1 hf1 hp1
  go_wp2_with fail
  refine C2.mono ?_
  rintro e w2 ⟨rfl, g2, hw2, hg2, hf2⟩
  have hl1 : zs1.length = (count + 10) / 8 := by have := HZ1.out.1.2.1; omega
  have e8 : 8 * zs1.length = alW count := by rw [hl1]; rfl
  rw [e8] at hw2
  have hz2 : Bitz zs1 (W + (if last then 1 else 0) * 2 ^ count) (alW count) := by
    refine ⟨HZ1.out.1.1, by rw [hl1]; unfold alW; omega, HZ1.out.1.2.2.1, Int.lt_of_lt_of_le HZ1.out.1.2.2.2 ?_⟩
    have : (2 : Nat) ^ (count + 3) ≤ 2 ^ alW count := Nat.pow_le_pow_right (by omega) (by unfold alW; omega)
    exact_mod_cast this
  have hp2 := HZ1.out.2.1.fr HZ1.out.2.2.1 hf2
  obtain ⟨q0, q1, q2⟩ := hp2.cells
  have halc : alW count ≤ count + 10 := by unfold alW; omega
  have C3 := put_nat x g2 zs1 _ (alW count) 16 m w2 hw2 hz2 (by have := HP.out; omega) (by omega) (by omega) (by show m < 65536; omega)
  have HZ2 : Hid (PK w2 p x s how ∧ WrZ w2 x g2 zs1 (alW count) ∧ (g2 = g ∨ ∃ k, g2 = some k ∧ w.heap.size ≤ k) ∧ Fr w w2 x g) := ⟨hp2, hw2, or_trans HZ1.out.2.2.2.1 hg2 HZ1.out.2.2.2.2.size, HZ1.out.2.2.2.2.trans hf2 HZ1.out.2.2.2.1⟩
  clear C2 hw2 hg2 hf2 hz2 hp2 HZ1 hl1 e8 k0 k1 k2
  go_wp2_with fail
  refine C3.mono ?_
  rintro e w3 ⟨zs3, hz3, rfl, g3, hw3, hg3, hf3⟩
  have hp3 := HZ2.out.1.fr HZ2.out.2.1 hf3
  obtain ⟨k0, k1, k2⟩ := hp3.cells
  have C4 := put_nat x g3 zs3 _ (alW count + 16) 16 (65535 - m) w3 hw3 hz3 (by have := HP.out; omega) (by omega) (by omega) (by show 65535 - m < 65536; omega)
  rw [show (((65535 - m : Nat)) : Int) = 65535 - (m : Int) by omega] at C4
  have HZ3 : Hid (PK w3 p x s how ∧ WrZ w3 x g3 zs3 (alW count + 16) ∧ (g3 = g ∨ ∃ k, g3 = some k ∧ w.heap.size ≤ k) ∧ Fr w w3 x g) := ⟨hp3, hw3, or_trans HZ2.out.2.2.1 hg3 HZ2.out.2.2.2.size, HZ2.out.2.2.2.trans hf3 HZ2.out.2.2.1⟩
  clear C3 hw3 hg3 hf3 hz3 hp3 HZ2 q0 q1 q2
  go_wp2_with fail
  refine C4.mono ?_
  rintro e w4 ⟨zs4, hz4, rfl, g4, hw4, hg4, hf4⟩
  have hp4 := HZ3.out.1.fr HZ3.out.2.1 hf4
  have HS : Hid (StRel w p x s how g W count last bs 0 w4) := by
    refine ⟨hp4, ⟨g4, zs4, hw4, ?_, or_trans HZ3.out.2.2.1 hg4 HZ3.out.2.2.2.size⟩, HZ3.out.2.2.2.trans hf4 HZ3.out.2.2.1⟩
    have : stW W count last bs 0 = W + (if last then 1 else 0) * 2 ^ count + (m : Int) * 2 ^ alW count + (65535 - (m : Int)) * 2 ^ (alW count + 16) := by
      unfold stW
      rw [HP.out.2.2.2.2.2.1]
      simp [litN]
    rw [this]
    exact hz4
  clear C4 hw4 hg4 hf4 hz4 hp4 HZ3 k0 k1 k2
  go_wp2
  go_loopw [7, 33] (fun _ v wr => ∃ i : Nat, i ≤ m ∧ v = .int .i64 i ∧ Hid (StRel w p x s how g W count last bs i wr)) (fun _ v _ => m - (intOf v).toNat)
  case atStart => exact ⟨0, by omega, rfl, HS.out⟩
  case round =>
    clear HS
    obtain ⟨i, hi, rfl, HR⟩ := hrel
    by_cases hlt : i < m
    · have hne : bs ≠ [] := by intro e; have := HP.out.2.2.2.2.2.1; rw [e] at this; simp at this; omega
      obtain ⟨b, off, rfl, hcc⟩ : ∃ b off, a = some ⟨b, off, none⟩ ∧ wr.cell? ⟨b, off + i, none⟩ = some (.int .u8 (bs[i]?.getD 0)) := by
        rcases HP.out.2.2.1 with h | ⟨b, off, rfl, hc⟩
        · exact absurd h hne
        · have h1 := hc i (by have := HP.out; omega)
          have h2 := HP.out.2.2.2.2.1 ⟨b, off, none⟩ rfl hne
          exact ⟨b, off, rfl, (World.cell?_of_block (a := ⟨b, off + i, none⟩) (HR.out.fr.block b (cell_lt h1) h2.1 h2.2)).trans h1⟩
      obtain ⟨v, hv⟩ : ∃ v : Nat, bs[i]?.getD 0 = (v : Int) := ⟨(bs[i]?.getD 0).toNat, by have := HP.out.2.2.2.1.at i; omega⟩
      have hvb : v ≤ 255 := by have := HP.out.2.2.2.1.at i; omega
      rw [hv] at hcc
      obtain ⟨k0, k1, k2⟩ := HR.out.pk.cells
      obtain ⟨g', zs', hw', hz', hg'⟩ := HR.out.wz
      have C5 := put_nat x g' zs' _ (alW count + 32 + 8 * i) 8 v wr hw' hz' (by have := HP.out; omega) (by omega) (by omega) (by show v < 256; omega)
      have HN : Hid (∀ zs5 g5 w5, Bitz zs5 (stW W count last bs i + v * 2 ^ (alW count + 32 + 8 * i)) (alW count + 32 + 8 * i + 8) → WrZ w5 x g5 zs5 (alW count + 32 + 8 * i + 8) → (g5 = g' ∨ ∃ k, g5 = some k ∧ wr.heap.size ≤ k) → Fr wr w5 x g' → StRel w p x s how g W count last bs (i + 1) w5) := by
        intro zs5 g5 w5 h1 h2 h3 h4
        refine ⟨HR.out.pk.fr hw' h4, ⟨g5, zs5, h2, ?_, or_trans hg' h3 HR.out.fr.size⟩, HR.out.fr.trans h4 hg'⟩
        rw [stW_succ W count last bs i (by have := HP.out; omega), hv]
        exact h1
      have hii : (i : Int) < (m : Int) := by omega
      clear hw' hz' hg' hne hv
      go_wp2_with fail
      refine C5.mono ?_
      rintro e w5 ⟨zs5, hz5, rfl, g5, hw5, hg5, hf5⟩
      have HN2 : Hid (StRel w p x s how g W count last bs (i + 1) w5) := HN.out zs5 g5 w5 hz5 hw5 hg5 hf5
      clear C5 HN hz5 hw5 hg5 hf5
      go_wp2
      go_roundw
      case rel => exact ⟨i + 1, by omega, by go_num, HN2.out⟩
      case measure => simp [intOf]; omega
    · obtain rfl : i = m := by omega
      have HE : Hid (WzPost w x g (stW W count last bs bs.length) (alW count + 32 + 8 * bs.length) (.returned (.tuple #[])) wr) := by
        obtain ⟨g', zs', h1, h2, h3⟩ := HR.out.wz
        rw [HP.out.2.2.2.2.2.1]
        exact ⟨rfl, g', zs', h1, h2, h3, HR.out.fr⟩
      clear HR
      go_wp2
      go_end0
      exact HE.out
end Go.Proofs.YtloagniacjfkfaaGreatDoor
/- deflate: places that are begun; a block that is stored; bytes packed as they are. -/
namespace Go.Proofs.YtloagniacjfkfaaGreatDoor
open Go.RowKit
/-- The places at block s: the text, the map's block M, the slice of places ahead. -/
def PL (w : World) (s : Nat) (vt : Value) (M : Nat) (va : Value) : Prop := w.heap[s]? = some (.cells #[vt, .map (some M), va] 89 (0, 0))
theorem PL.cells {w : World} {s M : Nat} {vt va : Value} (h : PL w s vt M va) : w.cell? ⟨s, 0, none⟩ = some vt ∧ w.cell? ⟨s, 1, none⟩ = some (.map (some M)) ∧ w.cell? ⟨s, 2, none⟩ = some va ∧ ∀ j, w.frozen? ⟨s, j, none⟩ = false := by
  unfold PL at h
  refine ⟨?_, ?_, ?_, fun j => ?_⟩ <;> simp [World.cell?, World.frozen?, h]
theorem PL.lt {w : World} {s M : Nat} {vt va : Value} (h : PL w s vt M va) : s < w.heap.size := lt_of_block h
theorem PL.same {w w' : World} {s M : Nat} {vt va : Value} (h : PL w s vt M va) (hs : w'.heap[s]? = w.heap[s]?) : PL w' s vt M va := hs.trans h
theorem PL.fr {w w' : World} {s M x : Nat} {vt va : Value} {g : Option Nat} {zs : List Int} {count : Nat} (h : PL w s vt M va) (hw : WrZ w x g zs count) (hf : Fr w w' x g) : PL w' s vt M va := by
  refine h.same (hf.block s h.lt ?_ ?_)
  · rintro rfl
    obtain ⟨v, hh, _⟩ := hw
    unfold PL at h
    rw [h] at hh
    simp at hh
  · intro e
    obtain ⟨v, _, hs⟩ := hw
    rcases hs with ⟨_, h2, _⟩ | ⟨b, off, cap, cur, _, h2, hh, _⟩
    · rw [h2] at e; cases e
    · rw [h2] at e; cases e
      unfold PL at h
      rw [h] at hh
      simp at hh
def NpPost (w : World) (vt : Value) (e : Ending) (w' : World) : Prop := ∃ s M, e = .returned (.pointer (some ⟨s, 0, none⟩)) ∧ w.heap.size ≤ s ∧ PL w' s vt M (.slice none 0 0) ∧ w'.heap[M]? = some (.map #[] 0) ∧ w.heap.size ≤ M ∧ Below w.heap.size w w'
set_option maxHeartbeats 800000 in
set_option maxRecDepth 20000 in
theorem nplaces_any (a : Option Addr) (m c : Nat) (w : World) : Calls Tryz.prog 32 #[.slice a m c] w fun e w' => NpPost w (.slice a m c) e w' := by
  have hmm := @run_makeMap Tryz.prog
  have h1 : ((w.alloc (.map #[] 0)).alloc (.cells #[.slice a m c, .map (some w.heap.size), .slice none 0 0] 89)).heap[w.heap.size]? = some (.map #[] 0) := by
    rw [Below.heap_alloc _ _ _ (by simp)]
    have : (w.alloc (.map #[] 0)).heap[w.heap.size]? = some (.map #[] 0) := by
      show (w.heap.push _)[w.heap.size]? = _
      simp
    exact this
  have h2 : ((w.alloc (.map #[] 0)).alloc (.cells #[.slice a m c, .map (some w.heap.size), .slice none 0 0] 89)).heap[w.heap.size + 1]? = some (.cells #[.slice a m c, .map (some w.heap.size), .slice none 0 0] 89 (0, 0)) := by
    have := heap_alloc_new (w.alloc (.map #[] 0)) (.cells #[.slice a m c, .map (some w.heap.size), .slice none 0 0] 89)
    rw [World.size_alloc] at this
    exact this
  have HP : Hid (NpPost w (.slice a m c) (.returned (.pointer (some ⟨w.heap.size + 1, 0, none⟩))) ((w.alloc (.map #[] 0)).alloc (.cells #[.slice a m c, .map (some w.heap.size), .slice none 0 0] 89))) :=
    ⟨w.heap.size + 1, w.heap.size, rfl, by omega, h2, h1, Nat.le_refl _, ((Below.refl _ w).alloc (Nat.le_refl _) _).alloc (by simp) _⟩
  clear h1 h2
  go_enter Tryz.func32, Tryz.ntmps32
  go_wp2
  go_ret
  exact HP.out
set_option maxHeartbeats 1600000 in
set_option maxRecDepth 20000 in
theorem dblock0_any (p x s M : Nat) (bs : List Int) (a : Option Addr) (m c A E : Nat) (va : Value) (w : World) (g : Option Nat) (zs : List Int) (W : Int) (count : Nat) (hp : PK w p x s 0) (hpl : PL w s (.slice a m c) M va) (hw : WrZ w x g zs count) (hz : Bitz zs W count) (hc : count + 8 * (E - A) ≤ 999900) (hm : bs.length = m) (hmc : m ≤ c)
    (hAE : A ≤ E) (hEm : E ≤ m) (hE6 : E - A ≤ 65535) (hby : Bytes bs) (hrow : Row w a bs) (hap : ∀ q, a = some q → bs ≠ [] → q.block ≠ x ∧ some q.block ≠ g) :
    Calls Tryz.prog 33 #[.pointer (some ⟨p, 0, none⟩), .int .i64 A, .int .i64 E] w fun e w' => WzPost w x g (stW W count (decide (E = m)) ((bs.drop A).take (E - A)) (E - A)) (alW count + 32 + 8 * (E - A)) e w' := by
  obtain ⟨bl, hbl⟩ : ∃ bl, (bs.drop A).take (E - A) = bl := ⟨_, rfl⟩
  have hll : bl.length = E - A := by rw [← hbl, List.length_take, List.length_drop]; omega
  have hbb : Bytes bl := by rw [← hbl]; exact (hby.drop A).take _
  have hrw : Row w (if c = A then a else Option.map (fun q => q.add A) a) bl := by rw [← hbl]; exact (hrow.cut A c (by omega) (by omega)).take _
  have hapl : ∀ q, (if c = A then a else Option.map (fun q => q.add A) a) = some q → bl ≠ [] → q.block ≠ x ∧ some q.block ≠ g := by
    intro q hq hne
    have hbne : bs ≠ [] := by rintro rfl; rw [← hbl] at hne; simp at hne
    by_cases hcA : c = A
    · rw [if_pos hcA] at hq
      exact hap q hq hbne
    · rw [if_neg hcA] at hq
      rcases hrow with h | ⟨b, off, rfl, _⟩
      · exact absurd h hbne
      · simp only [Option.map_some, Option.some.injEq, Addr.add_lit] at hq
        rw [← hq]
        exact hap ⟨b, off, none⟩ rfl hbne
  have C1 := fun last : Bool => dstore_any p x s 0 last bl _ (E - A) (c - A) w g zs W count hp hw hz (by rw [hll]; omega) hll (by omega) hE6 hbb hrw hapl
  rw [hll] at C1
  rw [hbl]
  obtain ⟨k0, k1, k2⟩ := hp.cells
  obtain ⟨l0, l1, l2, lf⟩ := hpl.cells
  have hAEi : (A : Int) ≤ (E : Int) := by omega
  have hEci : (E : Int) ≤ (c : Int) := by omega
  have hAci : (A : Int) ≤ (c : Int) := by omega
  clear hp hpl hw hz hrow hap hby hrw hapl hbb hbl hm hll
  obtain ⟨last, hlast⟩ : ∃ last, decide (E = m) = last := ⟨_, rfl⟩
  have HL : Hid (decide (E = m) = last) := hlast
  rw [hlast]
  have hli : ((E : Int) == (m : Int)) = last := by rw [← hlast, Bool.eq_iff_iff]; simp; omega
  clear hlast
  by_cases hcA : c = A
  · have C2 := C1 last
    rw [if_pos hcA] at C2
    obtain rfl : E = A := by omega
    subst hcA
    simp only [Nat.sub_self] at C2 ⊢
    clear C1
    have HLI : Hid _ := hli
    clear hli
    go_enter Tryz.func33, Tryz.ntmps33
    go_wp2_with fail
    rw [HLI.out]
    refine C2.mono ?_
    rintro e w2 ⟨rfl, h2⟩
    clear C2
    go_wp2
    refine bodyPost_ret (results_none rfl _ _ _) rfl ?_
    exact ⟨rfl, h2⟩
  · have C2 := C1 last
    rw [if_neg hcA] at C2
    have hcAi : ¬ (c : Int) = (A : Int) := by omega
    clear C1
    have HLI : Hid _ := hli
    clear hli
    go_enter Tryz.func33, Tryz.ntmps33
    go_wp2_with fail
    rw [HLI.out]
    refine C2.mono ?_
    rintro e w2 ⟨rfl, h2⟩
    clear C2
    go_wp2
    refine bodyPost_ret (results_none rfl _ _ _) rfl ?_
    exact ⟨rfl, h2⟩
end Go.Proofs.YtloagniacjfkfaaGreatDoor
/- deflate: few bytes, packed as they are. -/
namespace Go.Proofs.YtloagniacjfkfaaGreatDoor
open Go.RowKit
def DpPost (w : World) (ok : List Int → Prop) (e : Ending) (w' : World) : Prop :=
  ∃ a cap out, e = .returned (.tuple #[.slice a out.length cap, .int .i64 0]) ∧ ok out ∧ out.length ≤ cap ∧ cap ≤ 9223372036854775807 ∧ (a = none → cap = 0) ∧ Row w' a out ∧ Below w.heap.size w w'
structure D0Rel (w : World) (a : Option Addr) (m c : Nat) (x p s M : Nat) (W : Int) (count : Nat) (wr : World) : Prop where
  pk : PK wr p x s 0
  pl : PL wr s (.slice a m c) M (.slice none 0 0)
  wz : ∃ g zs, WrZ wr x g zs count ∧ Bitz zs W count ∧ (∀ k, g = some k → w.heap.size ≤ k)
  be : Below w.heap.size w wr
set_option maxHeartbeats 1600000 in
set_option maxRecDepth 20000 in
theorem dpack0_any (bs : List Int) (a : Option Addr) (m c : Nat) (w : World) (hm : bs.length = m) (hmc : m ≤ c) (hm6 : m ≤ 65535) (hby : Bytes bs) (hrow : Row w a bs) :
    Calls Tryz.prog 20 #[.slice a m c, .int .i64 0] w fun e w' => DpPost w (fun out => Bitz out (stW 0 0 true bs m) (40 + 8 * m)) e w' := by
  have HA : Hid (bs.length = m ∧ m ≤ c ∧ Bytes bs ∧ Row w a bs) := ⟨hm, hmc, hby, hrow⟩
  clear hm hmc hby hrow
  go_enter Tryz.func20, Tryz.ntmps20
  go_wp2_with fail
  refine (newW_any w).mono ?_
  rintro e w1 ⟨x, rfl, hx, hw1, hb1⟩
  have HW1 : Hid (WrZ w1 x none [] 0 ∧ Below w.heap.size w w1 ∧ w.heap.size ≤ x) := ⟨hw1, hb1, hx⟩
  clear hw1 hb1 hx
  go_wp2_with fail
  refine (nplaces_any a m c w1).mono ?_
  rintro e w2 ⟨s, M, rfl, hs, hpl, hM, hMn, hb2⟩
  have HH : Hid (∃ w3 p, w2.alloc (.cells #[.pointer (some ⟨x, 0, none⟩), .pointer (some ⟨s, 0, none⟩), .int .i64 0] 70) = w3 ∧ w2.heap.size = p) := ⟨_, _, rfl, rfl⟩
  obtain ⟨w3, p, hw3, hp⟩ := HH.out
  have HW3 : Hid (w2.alloc (.cells #[.pointer (some ⟨x, 0, none⟩), .pointer (some ⟨s, 0, none⟩), .int .i64 0] 70) = w3 ∧ w2.heap.size = p) := ⟨hw3, hp⟩
  have hb23 : Below w2.heap.size w2 w3 := by rw [← hw3]; exact (Below.refl _ _).alloc (Nat.le_refl _) _
  have hpk : PK w3 p x s 0 := by rw [← hp, ← hw3]; exact heap_alloc_new _ _
  have hpl3 := hpl.same (hb23.block _ hpl.lt)
  have hwr3 : WrZ w3 x none [] 0 := (HW1.out.1.old hb2).old hb23
  have hb3 : Below w.heap.size w w3 := (HW1.out.2.1.trans (hb2.mono HW1.out.2.1.size)).trans (hb23.mono (by have := HW1.out.2.1.size; have := hb2.size; omega))
  have HS0 : Hid (D0Rel w a m c x p s M 0 0 w3) := ⟨hpk, hpl3, ⟨none, [], hwr3, ⟨Bytes.nil, rfl, rfl, by decide⟩, (by intro k hk; cases hk)⟩, hb3⟩
  have HX : Hid (w.heap.size ≤ x) := HW1.out.2.2
  clear hb23 hpk hpl3 hwr3 hb3 HW1 hs hpl hM hMn hb2 hw3 hp HH
  go_wp2
  rw [HW3.out.1, HW3.out.2]
  go_loopw [7] (fun v wr => (v = .int .i64 0 ∧ Hid (D0Rel w a m c x p s M 0 0 wr)) ∨ (v = .int .i64 65535 ∧ Hid (D0Rel w a m c x p s M (stW 0 0 true bs m) (40 + 8 * m) wr))) (fun v _ => 1 - (intOf v).toNat)
  case atStart => exact .inl ⟨rfl, HS0.out⟩
  case round =>
    clear HS0
    rcases hrel with ⟨rfl, HR⟩ | ⟨rfl, HR⟩
    · obtain ⟨g, zs, hwz, hbz, hg⟩ := HR.out.wz
      have C1 := dblock0_any p x s M bs a m c 0 m (.slice none 0 0) wr g zs 0 0 HR.out.pk HR.out.pl hwz hbz (by omega) HA.out.1 HA.out.2.1 (by omega) (by omega) (by omega) HA.out.2.2.1 (HA.out.2.2.2.old HR.out.be) (by
        intro q hq hne
        have hlt := HA.out.2.2.2.lt q hq hne
        refine ⟨by have := HX.out; omega, fun e => by have := hg _ e.symm; omega⟩)
      have hst : stW 0 0 (decide (m = m)) ((bs.drop 0).take (m - 0)) (m - 0) = stW 0 0 true bs m := by
        rw [List.drop_zero, Nat.sub_zero, List.take_of_length_le (by have := HA.out; omega)]
        simp
      rw [hst, show alW 0 + 32 + 8 * (m - 0) = 40 + 8 * m by unfold alW; omega] at C1
      simp only [Int.natCast_zero] at C1
      have HN : Hid (∀ w5, WzPost wr x g (stW 0 0 true bs m) (40 + 8 * m) (.returned (.tuple #[])) w5 → D0Rel w a m c x p s M (stW 0 0 true bs m) (40 + 8 * m) w5) := by
        rintro w5 ⟨_, g', zs', h1, h2, h3, h4⟩
        refine ⟨HR.out.pk.fr hwz h4, HR.out.pl.fr hwz h4, ⟨g', zs', h1, h2, ?_⟩, Fr.below HR.out.be h4 HX.out hg HR.out.be.size⟩
        intro k hk
        rcases h3 with e | ⟨j, e, hj⟩
        · exact hg k (by rw [← e, hk])
        · rw [e] at hk; cases hk; have := HR.out.be.size; omega
      clear hwz hbz hg hst HR
      by_cases hm6' : m < 65535
      · have hmi : (m : Int) < 65535 := by omega
        go_wp2_with fail
        refine C1.mono ?_
        rintro e w5 ⟨rfl, h5⟩
        have HN2 : Hid (_) := HN.out w5 ⟨rfl, h5⟩
        clear C1 HN h5
        go_wp2
        go_roundw
        case rel => exact .inr ⟨rfl, HN2.out⟩
        case measure => simp [intOf]
      · obtain rfl : m = 65535 := by omega
        go_wp2_with fail
        refine C1.mono ?_
        rintro e w5 ⟨rfl, h5⟩
        have HN2 : Hid (_) := HN.out w5 ⟨rfl, h5⟩
        clear C1 HN h5
        go_wp2
        go_roundw
        case rel => exact .inr ⟨rfl, HN2.out⟩
        case measure => simp [intOf]
    · obtain ⟨g, zs, hwz, hbz, hg⟩ := HR.out.wz
      obtain ⟨k0, k1, k2⟩ := HR.out.pk.cells
      have C2 := outW_any x g zs _ wr hwz (by have := hbz.2.1; omega)
      have HB : Hid (Below w.heap.size w wr ∧ Bitz zs (stW 0 0 true bs m) (40 + 8 * m)) := ⟨HR.out.be, hbz⟩
      have hmi : ¬ (65535 : Int) < (m : Int) := by omega
      clear HR hwz hbz hg
      go_wp2_with fail
      refine C2.mono ?_
      rintro e w6 ⟨a6, c6, rfl, h1, h2, h3, h4, h5⟩
      have HP : Hid (DpPost w (fun out => Bitz out (stW 0 0 true bs m) (40 + 8 * m)) (.returned (.tuple #[.slice a6 zs.length c6, .int .i64 0])) w6) := ⟨a6, c6, zs, rfl, HB.out.2, h1, h2, h3, h4, HB.out.1.trans (h5.mono HB.out.1.size)⟩
      clear C2 h1 h2 h3 h4 h5
      go_wp2
      go_ret2
      exact HP.out
end Go.Proofs.YtloagniacjfkfaaGreatDoor
