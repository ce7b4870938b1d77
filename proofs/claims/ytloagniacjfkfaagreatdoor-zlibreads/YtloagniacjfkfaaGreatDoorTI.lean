/- The document's told lengths. -/
import Derived.Test.YtloagniacjfkfaaGreatDoorTH
namespace Go.Proofs.YtloagniacjfkfaaGreatDoor
open Go.RowKit
section
variable {w : World} {r : Nat} {gb go gq : Option Nat} {B out : List Int} {lim : Int} {dn : Bool}
def TdPost (w : World) (r : Nat) (gb go gq : Option Nat) (limI : Int) (dn : Bool) (s : St) (l out : List Int) (e : Ending) (w' : World) : Prop :=
  ∃ a1 n1 c1 a2 n2 c2 B' E', e = .returned (.tuple #[.slice a1 n1 c1, .slice a2 n2 c2]) ∧ RunAt w' r gb go gq B' out limI E' dn ∧ Bit B' ∧ B'.length ≤ l.length ∧ Fr w w' r none ∧ (E' ≠ 0 → ∀ B1, Says limI.toNat s l s.last E' out B1) ∧
    (E' = 0 → ∃ ns1 ns2 : List Nat, ns1.length = n1 ∧ ns2.length = n2 ∧ Cd ns1 ∧ Cd ns2 ∧ IRow w' a1 (ints ns1) ∧ IRow w' a2 (ints ns2) ∧ ∃ s1 : St, s1.now = 7 ∧ s1.la = some ns1 ∧ s1.da = some ns2 ∧ s1.out = out ∧ s1.last = s.last ∧ Sub limI.toNat s l s1 B')
theorem TdPost.no {s : St} {l : List Int} {w' : World} {B' : List Int} {E' : Int} (h1 : RunAt w' r gb go gq B' out lim E' dn) (hE : E' ≠ 0) (h2 : Bit B') (h3 : B'.length ≤ l.length) (h4 : Fr w w' r none) (h5 : ∀ B1, Says lim.toNat s l s.last E' out B1) : TdPost w r gb go gq lim dn s l out (.returned (.tuple #[.slice none 0 0, .slice none 0 0])) w' :=
  ⟨_, _, _, _, _, _, B', E', rfl, h1, h2, h3, h4, fun _ => h5, fun e => absurd e hE⟩
/-- The lengths' lengths so far: i of them, in block g. -/
def LnRel (W : World) (r : Nat) (gb go gq : Option Nat) (limI : Int) (dn : Bool) (out B1 : List Int) (g i : Nat) (wr : World) : Prop :=
  RunAt wr r gb go gq (B1.drop (3 * i)) out limI 0 dn ∧ LRow wr g (ints (clL B1 i)) ∧ (∀ k, k < W.heap.size → k ≠ r → k ≠ g → wr.heap[k]? = W.heap[k]?) ∧ W.heap.size ≤ wr.heap.size ∧ wr.os = W.os ∧ wr.tape = W.tape ∧ wr.output = W.output
/-- Between two symbols of the lengths' code. -/
def TdRel (W : World) (r : Nat) (gb go gq : Option Nat) (limI : Int) (dn : Bool) (s : St) (l out : List Int) (L : List Nat) (lits all fu : Nat) (o : Value) (wr : World) : Prop :=
  ∃ (rows : List Nat) (B' : List Int) (E' : Int), RunAt wr r gb go gq B' out limI E' dn ∧ Bit B' ∧ B'.length ≤ l.length ∧ Fr W wr r none ∧ wr.ownsRow W.heap.size 3 1 o (ints rows).length (ivals (ints rows)) ∧ rows.length ≤ all ∧ (∀ x ∈ rows, x ≤ 15) ∧ (E' = 0 → B'.length + 1 ≤ fu) ∧
    (E' = 0 → rows.length < all → At5 limI.toNat s l s.last out L lits all rows B') ∧ (E' = 0 → rows.length = all → EndS limI.toNat s l s.last out lits rows B') ∧ (E' ≠ 0 → ∀ B1, Says limI.toNat s l s.last E' out B1)
/-- Behind them all. -/
def TdEnd (W : World) (r : Nat) (gb go gq : Option Nat) (limI : Int) (dn : Bool) (s : St) (l out : List Int) (lits all : Nat) (o : Value) (wr : World) : Prop :=
  ∃ (rows : List Nat) (B' : List Int) (E' : Int), RunAt wr r gb go gq B' out limI E' dn ∧ Bit B' ∧ B'.length ≤ l.length ∧ Fr W wr r none ∧ wr.ownsRow W.heap.size 3 1 o (ints rows).length (ivals (ints rows)) ∧ (∀ x ∈ rows, x ≤ 15) ∧
    (E' = 0 → rows.length = all ∧ EndS limI.toNat s l s.last out lits rows B') ∧ (E' ≠ 0 → ∀ B1, Says limI.toNat s l s.last E' out B1)
/-- Behind a symbol and its bits. -/
def SwRel (W3 : World) (r : Nat) (gb go gq : Option Nat) (limI : Int) (dn : Bool) (s : St) (l out : List Int) (L : List Nat) (lits all : Nat) (rows : List Nat) (m vv nn : Nat) (B3 : List Int) (E3 : Int) (wx : World) : Prop :=
  RunAt wx r gb go gq B3 out limI E3 dn ∧ Bit B3 ∧ B3.length ≤ m ∧ Fr W3 wx r none ∧ (E3 ≠ 0 → ∀ B1, Says limI.toNat s l s.last E3 out B1) ∧ (E3 = 0 → LenS limI.toNat s l s.last out L lits all rows vv nn B3 ∧ vv ≤ 15)
/-- Lengths that are put behind: t of them. -/
def ApRel (W : World) (r : Nat) (gb go gq : Option Nat) (limI : Int) (dn : Bool) (out : List Int) (rows : List Nat) (vv : Nat) (B3 : List Int) (E4 : Int) (t : Nat) (o : Value) (wr : World) : Prop :=
  RunAt wr r gb go gq B3 out limI E4 dn ∧ Fr W wr r none ∧ wr.ownsRow W.heap.size 3 1 o (ints (rows ++ List.replicate t vv)).length (ivals (ints (rows ++ List.replicate t vv))) ∧ (E4 ≠ 0 → t = 0)
theorem own_shape {w : World} {base n : Nat} {v : Value} {xs : List Value} (h : w.ownsRow base 3 1 v n xs) : ∃ a c, v = .slice a n c := by
  rcases h.2 with ⟨h, h0⟩ | ⟨g, cap, cur, h, _⟩
  · exact ⟨none, 0, by rw [h, h0]⟩
  · exact ⟨_, _, h⟩
theorem own_fr {w w' : World} {r base : Nat} {v : Value} {l : List Int} (h : w.ownsRow base 3 1 v l.length (ivals l)) (hf : Fr w w' r none) (hr : r < base) : w'.ownsRow base 3 1 v l.length (ivals l) :=
  own_kept h fun k hk hk2 => hf.block k hk2 (by omega) (by simp)
theorem RunAt.blks {E : Int} (h : RunAt w r gb go gq B out lim E dn) : (∀ k, gb = some k → k < w.heap.size) ∧ (∀ k, go = some k → k < w.heap.size) ∧ (∀ k, gq = some k → k < w.heap.size) := by
  obtain ⟨vb, vo, vk, all, ks, h1, h2, h3, h4, h5⟩ := h
  exact ⟨fun k hk => h2.lt hk, fun k hk => h3.lt hk, fun k hk => h4.lt hk⟩
set_option maxHeartbeats 6400000 in
set_option maxRecDepth 20000 in
theorem rtold_any (s : St) (h3 : s.now = 3) (ho : s.out = out) (hB : Bit B) (hl : B.length ≤ 100000) (h : RunAt w r gb go gq B out lim 0 dn) :
    Calls Tryz.prog 50 #[.pointer (some ⟨r, 0, none⟩)] w fun e w' => TdPost w r gb go gq lim dn s B out e w' := by
  have HR : Hid (RunAt w r gb go gq B out lim 0 dn) := h
  obtain ⟨ab, cb, k0, fz⟩ := h.cB
  have k4 := h.cE
  have HS := counts_said (limN := lim.toNat) (last := s.last) (Sub.refl lim.toNat s B) h3
  rw [ho] at HS
  clear h
  by_cases h14 : B.length < 14
  · have h14i : (B.length : Int) < 14 := by omega
    have HP : Hid (TdPost w r gb go gq lim dn s B out (.returned (.tuple #[.slice none 0 0, .slice none 0 0])) (w.setCell ⟨r, 4, none⟩ (.int .i64 2))) := TdPost.no (HR.out.setE 2) (by decide) hB (Nat.le_refl _) ((Fr.refl _ _ _).snoc _ _) (HS.1 h14)
    clear HS
    go_enter Tryz.func50, Tryz.ntmps50
    go_wp2
    go_ret2
    exact HP.out
  · have h14i : ¬ (B.length : Int) < 14 := by omega
    have HT1 := rtake_any 5 (by decide) hB HR.out
    rw [show tkR 0 B 5 = ((bV B 0 5 : Int), B.drop 5, 0) by unfold tkR; rw [if_neg (by decide), if_neg (by omega)]] at HT1
    have ha := bV_small hB 0 5
    have hb := bV_small hB 5 5
    have hc := bV_small hB 10 4
    obtain ⟨a, hax⟩ : ∃ a, bV B 0 5 = a := ⟨_, rfl⟩
    obtain ⟨b, hbx⟩ : ∃ b, bV B 5 5 = b := ⟨_, rfl⟩
    obtain ⟨c, hcx⟩ : ∃ c, bV B 10 4 = c := ⟨_, rfl⟩
    have e2 : tkR 0 (B.drop 5) 5 = ((b : Int), B.drop 10, 0) := by
      unfold tkR
      rw [if_neg (by decide), if_neg (by rw [List.length_drop]; omega), List.drop_drop, ← hbx]
      unfold bV
      rw [List.drop_zero]
    have e3 : tkR 0 (B.drop 10) 4 = ((c : Int), B.drop 14, 0) := by
      unfold tkR
      rw [if_neg (by decide), if_neg (by rw [List.length_drop]; omega), List.drop_drop, ← hcx]
      unfold bV
      rw [List.drop_zero]
    rw [hax] at HT1 HS ha
    rw [hbx] at HS hb
    rw [hcx] at HS hc
    have HS2 : Hid _ := HS.2
    have HE : Hid (tkR 0 (B.drop 5) 5 = ((b : Int), B.drop 10, 0) ∧ tkR 0 (B.drop 10) 4 = ((c : Int), B.drop 14, 0)) := ⟨e2, e3⟩
    have hb1 := hB.drop 14
    have hlb1 : (B.drop 14).length + 14 = B.length := by rw [List.length_drop]; omega
    obtain ⟨B1, hB1⟩ : ∃ B1, B.drop 14 = B1 := ⟨_, rfl⟩
    rw [hB1] at HS2 HE hb1 hlb1
    have hab : a < 32 ∧ b < 32 ∧ c < 16 := ⟨by simpa using ha, by simpa using hb, by simpa using hc⟩
    clear e2 e3 hax hbx hcx ha hb hc HS hB1
    go_enter Tryz.func50, Tryz.ntmps50
    go_wp2_with fail
    refine HT1.mono ?_
    rintro e w1 ⟨rfl, a1, f1⟩
    simp only at a1
    have HT2 := rtake_any 5 (by decide) (hB.drop 5) a1
    rw [HE.out.1] at HT2
    have HF1 : Hid (Fr w w1 r none) := f1
    clear HT1 a1 f1
    obtain ⟨A, hA⟩ : ∃ A, a + 257 = A := ⟨_, rfl⟩
    obtain ⟨D, hD⟩ : ∃ D, b + 1 = D := ⟨_, rfl⟩
    obtain ⟨C, hC⟩ : ∃ C, c + 4 = C := ⟨_, rfl⟩
    have hAi : (a : Int) + 257 = (A : Int) := by omega
    have hDi : (b : Int) + 1 = (D : Int) := by omega
    have hCi : (c : Int) + 4 = (C : Int) := by omega
    have hbd : 257 ≤ A ∧ A ≤ 288 ∧ 1 ≤ D ∧ D ≤ 32 ∧ 4 ≤ C ∧ C ≤ 19 := by omega
    rw [hA, hD, hC] at HS2
    clear hA hD hC
    go_wp2_with fail
    refine HT2.mono ?_
    rintro e w2 ⟨rfl, a2, f2⟩
    simp only at a2
    have HT3 := rtake_any 4 (by decide) (hB.drop 10) a2
    rw [HE.out.2] at HT3
    have HF2 : Hid (Fr w w2 r none) := HF1.out.trans f2 (.inl rfl)
    clear HT2 a2 f2 HF1
    go_wp2_with fail
    refine HT3.mono ?_
    rintro e w3 ⟨rfl, a3, f3⟩
    simp only at a3
    have HA3 : Hid (RunAt w3 r gb go gq B1 out lim 0 dn ∧ Fr w w3 r none) := ⟨a3, HF2.out.trans f3 (.inl rfl)⟩
    clear HT3 a3 f3 HF2 HE k0 k4 fz HR
    by_cases hbad : 286 < A ∨ 30 < D
    · have HFa := rfail_any true 5 HA3.out.1
      rw [show flE 0 true 5 = 5 from rfl] at HFa
      have HP : Hid (∀ w4, FlPost w3 r gb go gq B1 out lim 5 dn (.returned (.tuple #[])) w4 → TdPost w r gb go gq lim dn s B out (.returned (.tuple #[.slice none 0 0, .slice none 0 0])) w4) := by
        rintro w4 ⟨_, a4, f4, _⟩
        exact TdPost.no a4 (by decide) hb1 (by omega) (HA3.out.2.trans f4 (.inl rfl)) (HS2.out.1 (by omega) hbad)
      by_cases h1 : 286 < A
      · have h1b : decide (286 < A) = true := by simp; omega
        have h1i : (286 : Int) < (A : Int) := by omega
        clear hbad HA3
        go_wp2_with fail
        refine HFa.mono ?_
        rintro e w4 hp
        obtain rfl := hp.1
        have q4 := hp.2.1.cE
        have HP4 : Hid _ := HP.out w4 hp
        clear HFa hp HP
        go_wp2
        go_ret2
        exact HP4.out
      · have h1b : decide (286 < A) = false := by simp; omega
        have h1i : ¬ (286 : Int) < (A : Int) := by omega
        have h2b : decide (30 < D) = true := by simp; omega
        have h2i : (30 : Int) < (D : Int) := by omega
        clear hbad HA3
        go_wp2_with fail
        refine HFa.mono ?_
        rintro e w4 hp
        obtain rfl := hp.1
        have q4 := hp.2.1.cE
        have HP4 : Hid _ := HP.out w4 hp
        clear HFa hp HP
        go_wp2
        go_ret2
        exact HP4.out
    · have h1b : decide (286 < A) = false := by simp; omega
      have h1i : ¬ (286 : Int) < (A : Int) := by omega
      have h2b : decide (30 < D) = false := by simp; omega
      have h2i : ¬ (30 : Int) < (D : Int) := by omega
      have HFa := rfail_any (decide ((286 : Int) < (A : Int)) || decide ((30 : Int) < (D : Int))) 5 HA3.out.1
      rw [show flE 0 (decide ((286 : Int) < (A : Int)) || decide ((30 : Int) < (D : Int))) 5 = 0 by rw [decide_eq_false h1i, decide_eq_false h2i]; rfl] at HFa
      go_wp2_with fail
      refine HFa.mono ?_
      rintro e w4 ⟨rfl, a4, f4, c4⟩
      clear c4
      have q4 := a4.cE
      obtain ⟨ab4, cb4, q0, qf⟩ := a4.cB
      have HA4 : Hid (RunAt w4 r gb go gq B1 out lim 0 dn ∧ Fr w w4 r none) := ⟨a4, HA3.out.2.trans f4 (.inl rfl)⟩
      have hs4 := HS2.out.2 (by omega) (by omega) (by omega)
      have HC4 : Hid _ := code_said (out := out) (last := s.last) hs4 rfl ho rfl rfl
      clear HFa a4 f4 HA3 HS2 hs4
      by_cases hsh : B1.length < 3 * C
      · have hshi : (B1.length : Int) < 3 * (C : Int) := by omega
        have HP : Hid (TdPost w r gb go gq lim dn s B out (.returned (.tuple #[.slice none 0 0, .slice none 0 0])) (w4.setCell ⟨r, 4, none⟩ (.int .i64 2))) := TdPost.no (HA4.out.1.setE 2) (by decide) hb1 (by omega) (HA4.out.2.snoc _ _) (HC4.out.1 hsh)
        clear HC4 HA4
        go_wp2
        go_ret2
        exact HP.out
      · have hshi : ¬ (B1.length : Int) < 3 * (C : Int) := by omega
        obtain ⟨i0, hi, hz0, hz1, hz2⟩ := info_parts Tryz.info3
        have hmk : i0.bytes * 19 ≤ 281474976710656 := by rw [hz2]; omega
        have HC5 : Hid _ := HC4.out.2
        clear HC4
        go_wp2_with (at_make; refine wpList_make_full _ rfl _ _ 57 rfl w4.heap.size 3 i0 _ 1 Tryz.underlying57 hi hz0 hz1 .i64 .i64 19 19 19 rfl rfl rfl rfl hmk (by unfold maxLen; omega) (Nat.le_refl _) ?_)
        intro w5 hown hgrow
        obtain ⟨G, hG⟩ : ∃ G, w4.heap.size = G := ⟨_, rfl⟩
        have hrG : r < G := by rw [← hG]; exact HA4.out.1.lt
        have HBK : Hid ((∀ k, gb = some k → k < G) ∧ (∀ k, go = some k → k < G) ∧ (∀ k, gq = some k → k < G)) := by rw [← hG]; exact HA4.out.1.blks
        have HL5 : Hid (LnRel w5 r gb go gq lim dn out B1 G 0 w5 ∧ Fr w w5 r none ∧ w.heap.size ≤ G ∧ G < w5.heap.size) := by
          have hb5 : Below w4.heap.size w4 w5 := ⟨hgrow.os, hgrow.tape, hgrow.output, hgrow.size, fun k hk => hgrow.block k hk (by simp)⟩
          have hL : LRow w5 G (ints (clL B1 0)) := by rw [← hG]; exact LRow.made hown
          exact ⟨⟨HA4.out.1.old hb5, hL, fun _ _ _ _ => rfl, Nat.le_refl _, rfl, rfl, rfl⟩, HA4.out.2.trans (Fr.of_heap hb5) (.inl rfl), by rw [← hG]; exact HA4.out.2.size, lt_of_block hL⟩
        clear hown hgrow HA4 q0 q4 qf
        go_wp2
        rw [hG]
        clear hG
        go_loopw [8] (fun i wr => ∃ t : Nat, t ≤ C ∧ i = .int .i64 t ∧ Hid (LnRel w5 r gb go gq lim dn out B1 G t wr)) (fun i _ => C - (intOf i).toNat)
        case atStart => exact ⟨0, Nat.zero_le _, rfl, HL5.out.1⟩
        case round =>
          obtain ⟨t, ht, rfl, HX⟩ := hrel
          by_cases hlt : t < C
          · have hlti : (t : Int) < (C : Int) := by omega
            obtain ⟨q, hq⟩ : ∃ q, ordL[t]?.getD 0 = q := ⟨_, rfl⟩
            have hq19 : q < 19 := by rw [← hq]; exact ordL_lt t (by omega)
            obtain ⟨V, hV⟩ : ∃ V, bV B1 (3 * t) 3 = V := ⟨_, rfl⟩
            have HRW : Hid (∀ n, Calls Tryz.prog 76 #[] (wr.drewN n) fun e w' => e = .returned (.slice (some ⟨wr.heap.size, 0, none⟩) 19 19) ∧ w'.cell? ⟨wr.heap.size, t, none⟩ = some (.int .i64 q) ∧ Hid (Below wr.heap.size wr w')) := by
              intro n
              refine (rrow_any (wr.drewN n)).mono ?_
              rintro e w' ⟨rfl, h1, h2⟩
              refine ⟨rfl, ?_, ⟨h2.os, h2.tape, h2.output, h2.size, h2.block⟩⟩
              obtain ⟨b', off, e1, hc⟩ := h1.at t (by rw [ints_len]; show t < 19; omega)
              cases e1
              rw [Nat.zero_add, ints_at] at hc
              rw [← hq]
              exact hc
            have HTK : Hid (∀ w6, Below wr.heap.size wr w6 → w6.cell? ⟨wr.heap.size, t, none⟩ = some (.int .i64 q) → Calls Tryz.prog 46 #[.pointer (some ⟨r, 0, none⟩), .int .i64 3] w6 fun e w7 => e = .returned (.int .i64 V) ∧ w7.cell? ⟨wr.heap.size, t, none⟩ = some (.int .i64 q) ∧ (∃ x, w7.cell? ⟨G, q, none⟩ = some (.int .i64 x)) ∧ w7.frozen? ⟨G, q, none⟩ = false ∧ Hid (LnRel w5 r gb go gq lim dn out B1 G (t + 1) (w7.setCell ⟨G, q, none⟩ (.int .i64 V)))) := by
              intro w6 hb6 hk6
              obtain ⟨x1, x2, x3, x4, x5, x6, x7⟩ := HX.out
              have h6 := x1.old hb6
              have hT := rtake_any 3 (by decide) (hb1.drop (3 * t)) h6
              have et : tkR 0 (B1.drop (3 * t)) 3 = ((V : Int), B1.drop (3 * (t + 1)), 0) := by
                unfold tkR
                rw [if_neg (by decide), if_neg (by rw [List.length_drop]; omega), List.drop_drop, ← hV]
                unfold bV
                rw [List.drop_zero, show 3 * t + 3 = 3 * (t + 1) by omega]
              rw [et] at hT
              refine hT.mono ?_
              rintro e w7 ⟨rfl, a7, f7⟩
              simp only at a7
              have hLG : LRow w7 G (ints (clL B1 t)) := x2.same ((f7.block G (Nat.lt_of_lt_of_le (lt_of_block x2) hb6.size) (by omega) (by simp)).trans (hb6.block G (lt_of_block x2)))
              have hcl : (ints (clL B1 t)).length = 19 := by rw [ints_len, clL_len]
              obtain ⟨c1, c2⟩ := hLG.cell q (by rw [hcl]; exact hq19)
              have hrw : wr.heap.size ≠ r := by have := x1.lt; omega
              refine ⟨rfl, ?_, ⟨_, c1⟩, c2, ?_⟩
              · have := f7.block wr.heap.size (cell_lt hk6) hrw (by simp)
                unfold World.cell? at hk6 ⊢
                rw [this]; exact hk6
              · have e1 : ints (clL B1 (t + 1)) = (ints (clL B1 t)).set q (V : Int) := by
                  show ints ((clL B1 t).set (ordL[t]?.getD 0) (bV B1 (3 * t) 3)) = _
                  rw [hq, hV]
                  simp [ints, List.map_set]
                have hz : ∀ k, k ≠ G → (w7.setCell ⟨G, q, none⟩ (.int .i64 (V : Int))).heap[k]? = w7.heap[k]? := fun k hk => Below.heap_setCell _ _ _ _ hk
                refine ⟨a7.same (hz r (Nat.ne_of_lt hrG)) (fun k hk => hz k (Nat.ne_of_lt (HBK.out.1 k hk))) (fun k hk => hz k (Nat.ne_of_lt (HBK.out.2.1 k hk))) (fun k hk => hz k (Nat.ne_of_lt (HBK.out.2.2 k hk))), by rw [e1]; exact hLG.set q _, fun k hk h1 h2 => ?_, ?_, ?_, ?_, ?_⟩
                · rw [hz k h2, f7.block k (Nat.lt_of_lt_of_le hk (Nat.le_trans x4 hb6.size)) h1 (by simp), hb6.block k (Nat.lt_of_lt_of_le hk x4)]
                  exact x3 k hk h1 h2
                · have := f7.size
                  have := hb6.size
                  simp only [World.setCell, Array.size_modify]
                  omega
                · exact f7.os.trans (hb6.os.trans x5)
                · exact f7.tape.trans (hb6.tape.trans x6)
                · exact f7.output.trans (hb6.output.trans x7)
            have hqi : (q : Int) < 19 := by omega
            have ht19 : t < 19 := by omega
            have ht19i : (0 : Int) ≤ (t : Int) ∧ (t : Int) < 19 := by omega
            clear HX hq hV
            go_wp2
            go_region_with (first
              | (go_at_call 76; refine Calls.mono (HRW.out _) ?_; rintro e w6 ⟨rfl, kr, rb⟩)
              | (go_at_call 46; refine Calls.mono (HTK.out _ rb.out (by assumption)) ?_; rintro e w7 ⟨rfl, kr7, ⟨x7, kg7⟩, kf7, hp7⟩))
            all_goals
              go_wp2
              go_roundw
              case rel => exact ⟨t + 1, by omega, by go_num, hp7.out⟩
              case measure => simp [intOf]; omega
          · obtain rfl : C = t := by omega
            have hlti : ¬ (C : Int) < (C : Int) := by omega
            obtain ⟨L, hL⟩ : ∃ L, clL B1 C = L := ⟨_, rfl⟩
            have hL19 : L.length = 19 := by rw [← hL]; exact clL_len B1 C
            have hL7 : ∀ x ∈ L, x ≤ 15 := by rw [← hL]; intro x hx; have := clL_mem hb1 C x hx; omega
            have hb5 := hb1.drop (3 * C)
            have hl5 : (B1.drop (3 * C)).length ≤ B1.length := by rw [List.length_drop]; omega
            obtain ⟨B5, hB5⟩ : ∃ B5, B1.drop (3 * C) = B5 := ⟨_, rfl⟩
            have HC6 : Hid ((wholeB (ints L) = false ∨ wordsN (ints L) = 0 → ∀ B2, Says lim.toNat s B s.last 5 out B2) ∧ (¬ (wholeB (ints L) = false ∨ wordsN (ints L) = 0) → At5 lim.toNat s B s.last out L A (A + D) [] B5)) := by
              rw [← hL, ← hB5]
              exact ⟨fun h => HC5.out.1 (by show 3 * C ≤ _; omega) h, fun h => HC5.out.2 (by show 3 * C ≤ _; omega) h⟩
            have HW : Hid (RunAt wr r gb go gq B5 out lim 0 dn ∧ LRow wr G (ints L) ∧ Fr w wr r none) := by
              obtain ⟨x1, x2, x3, x4, x5, x6, x7⟩ := HX.out
              rw [hL] at x2
              rw [hB5] at x1
              refine ⟨x1, x2, ⟨x5.trans HL5.out.2.1.os, x6.trans HL5.out.2.1.tape, x7.trans HL5.out.2.1.output, Nat.le_trans HL5.out.2.1.size x4, fun k hk h1 h2 => ?_⟩⟩
              exact (x3 k (Nat.lt_of_lt_of_le hk HL5.out.2.1.size) h1 (by have := HL5.out.2.2.1; omega)).trans (HL5.out.2.1.block k hk h1 h2)
            rw [hB5] at hb5 hl5
            clear HX HL5 HC5 hL hB5
            have HLI : Hid (L.length = 19 ∧ (∀ x ∈ L, x ≤ 15)) := ⟨hL19, hL7⟩
            clear hL19 hL7
            by_cases hwh : wholeB (ints L) = true
            · have HCd : Hid (Cd L) := ints_cd (by rw [HLI.out.1]; decide) HLI.out.2 hwh
              have HWd := words_any (some ⟨G, 0, none⟩) 19 19 L wr HLI.out.1 HCd.out HW.out.2.1.irow
              go_wp2_with fail
              refine HWd.mono ?_
              rintro e W ⟨vw, xs, rfl, q1, p1, b1⟩
              have HQ : Hid (QRow W wr.heap.size vw xs ∧ PS W xs (wds L)) := ⟨q1, p1⟩
              have HRW : Hid (RunAt W r gb go gq B5 out lim 0 dn ∧ LRow W G (ints L) ∧ Fr w W r none) := ⟨HW.out.1.old b1, HW.out.2.1.same (b1.block G (lt_of_block HW.out.2.1)), HW.out.2.2.trans (Fr.of_heap b1) (.inl rfl)⟩
              have hxl : xs.length = wordsN (ints L) := by
                rw [All2.len p1, HCd.out.wds_len]
                simp [wordsN, ints, List.countP_map, Function.comp_def]
              have HCk := check_any (some ⟨G, 0, none⟩) 19 19 (ints L) W (by rw [ints_len]; exact HLI.out.1) (by decide) HRW.out.2.1.irow
              rw [checkV_ints (by rw [HLI.out.1]; decide) HLI.out.2, hwh] at HCk
              obtain ⟨adw, cpw, hvw⟩ := q1.shape
              obtain ⟨X, hX⟩ : ∃ X, xs.length = X := ⟨_, rfl⟩
              rw [hX] at hvw hxl
              subst hvw
              have HXL : Hid (X = wordsN (ints L)) := hxl
              have hX19 : X ≤ 19 := by rw [hxl]; have := wordsN_le (ints L); rw [ints_len, HLI.out.1] at this; exact this
              clear HWd q1 p1 b1 HW hX hxl
              go_wp2_with fail
              refine HCk.mono ?_
              rintro e W' ⟨rfl, hW'⟩
              subst hW'
              have HFa := rfail_any ((X : Int) == 0) 5 HRW.out.1
              obtain ⟨E6, hE6⟩ : ∃ E6, flE 0 ((X : Int) == 0) 5 = E6 := ⟨_, rfl⟩
              have HE6 : Hid (flE 0 ((X : Int) == 0) 5 = E6) := hE6
              rw [hE6] at HFa
              clear hE6 HCk
              go_wp2_with fail
              refine HFa.mono ?_
              rintro e W2 ⟨rfl, a6, f6, c6⟩
              clear c6
              obtain ⟨al, hal⟩ : ∃ al, A + D = al := ⟨_, rfl⟩
              have hali : (A : Int) + (D : Int) = (al : Int) := by omega
              have hab : 258 ≤ al ∧ al ≤ 318 ∧ A ≤ 286 ∧ al ≤ A + 30 ∧ A < al := by omega
              have HT0 : Hid (TdRel W2 r gb go gq lim dn s B out L A al (B5.length + 1) (.slice none 0 0) W2) := by
                refine ⟨[], B5, E6, a6, hb5, by omega, Fr.refl _ _ _, World.ownsRow_nil _ _ _ _, Nat.zero_le _, (by simp), fun _ => Nat.le_refl _, fun e0 _ => ?_, fun _ h0 => ?_, fun e0 => ?_⟩
                · have h := HC6.out.2
                  rw [hal] at h
                  refine h ?_
                  rintro (h1 | h1)
                  · rw [hwh] at h1; cases h1
                  · have h2 := HE6.out
                    rw [HXL.out, h1, e0] at h2
                    cases h2
                · simp only [List.length_nil] at h0; omega
                · have h2 := HE6.out
                  unfold flE at h2
                  by_cases h1 : X = 0
                  · rw [if_pos ⟨rfl, by rw [h1]; rfl⟩] at h2
                    rw [← h2]
                    exact HC6.out.1 (.inr (by rw [← HXL.out]; exact h1))
                  · rw [if_neg (by simp; exact h1)] at h2
                    exact absurd h2.symm e0
              have HWQ : Hid (QRow W2 wr.heap.size (.slice adw X cpw) xs ∧ PS W2 xs (wds L) ∧ RunAt W2 r gb go gq B5 out lim E6 dn ∧ Fr w W2 r none) := by
                have := words_fr HQ.out.1 HQ.out.2 HRW.out.1 (Fr.none f6)
                exact ⟨this.1, this.2, a6, HRW.out.2.2.trans f6 (.inl rfl)⟩
              clear HFa a6 f6 HQ HRW HC6 HE6 HXL hal hwh hX19
              go_upto_block 2 with fail
              go_cut [10, 11, 12, 13, 14] (fun o _ _ _ _ wx => Hid (TdEnd W2 r gb go gq lim dn s B out A al o wx))
              case first =>
                go_wp2_with fail
                go_loopg [10, 11, 12, 13, 14] (B5.length + 1) (fun fu o _ _ _ _ wx => Hid (TdRel W2 r gb go gq lim dn s B out L A al fu o wx))
                case atStart => exact HT0.out
                case round =>
                  clear HT0
                  obtain ⟨rows, B', E', ra, hb', hl', hfr, hown, hral, hr15, hfu, hat, hend, hsays⟩ := hrel
                  have k4 := ra.cE
                  obtain ⟨ao, co, hvo⟩ := own_shape hown
                  rw [ints_len] at hvo
                  subst hvo
                  have HG : Hid (RunAt wr r gb go gq B' out lim E' dn ∧ Fr W2 wr r none ∧ wr.ownsRow W2.heap.size 3 1 (.slice ao rows.length co) (ints rows).length (ivals (ints rows)) ∧ (∀ x ∈ rows, x ≤ 15)) := ⟨ra, hfr, hown, hr15⟩
                  by_cases hE : E' = 0
                  · subst hE
                    have hfu := hfu rfl
                    by_cases hlt : rows.length < al
                    · have hlti : (rows.length : Int) < (al : Int) := by omega
                      have hq := words_fr HWQ.out.1 HWQ.out.2.1 HWQ.out.2.2.1 (Fr.none hfr)
                      have HN := rnext_any L _ _ xs HCd.out hq.1 hq.2 hb' (by omega) ra
                      have HLS := lens_said (hat rfl hlt)
                      have hnn := nxL_nonneg L B'
                      have hnl := nxL_len L B'
                      have hnp := nxL_pos L B'
                      have hns := nxL_sym L B'
                      rw [HLI.out.1] at hns
                      have en : nxR 0 L B' = ((nxL L B').1, B'.drop (nxL L B').2.2, (nxL L B').2.1) := by unfold nxR; rw [if_neg (by decide)]
                      rw [en] at HN
                      generalize nxL L B' = T at HN HLS hnn hnl hnp hns
                      obtain ⟨S, er, n⟩ := T
                      simp only at HN HLS hnn hnl hnp hns
                      have HLSH : Hid _ := HLS
                      clear ra hfr hown hr15 hat hend hsays hq en HLS
                      go_wp2_with fail
                      refine HN.mono ?_
                      rintro e w3 ⟨rfl, a3, f3⟩
                      simp only at a3
                      have q4 := a3.cE
                      have HA3 : Hid (RunAt w3 r gb go gq (B'.drop n) out lim er dn ∧ Fr wr w3 r none ∧ Fr W2 w3 r none ∧ w3.ownsRow W2.heap.size 3 1 (.slice ao rows.length co) (ints rows).length (ivals (ints rows))) := ⟨a3, f3, HG.out.2.1.trans f3 (.inl rfl), own_fr HG.out.2.2.1 f3 HWQ.out.2.2.1.lt⟩
                      obtain ⟨ab3, cb3, _, fz3⟩ := a3.cB
                      have hb3 := hb'.drop n
                      have hl3 : (B'.drop n).length = B'.length - n := by rw [List.length_drop]
                      obtain ⟨B2, hB2⟩ : ∃ B2, B'.drop n = B2 := ⟨_, rfl⟩
                      rw [hB2] at HA3 HLSH hb3 hl3
                      clear HN a3 f3 k4 hB2
                      by_cases her : er = 0
                      · subst her
                        have hn1 := hnp rfl
                        have hs19 := hns rfl
                        obtain ⟨Sn, rfl⟩ : ∃ Sn : Nat, S = (Sn : Int) := ⟨S.toNat, by omega⟩
                        have HZ := HLSH.out.2 rfl
                        have HZH : Hid _ := HZ
                        clear HZ HLSH hnp hns hnn
                        go_upto_block 4 with fail
                        go_cut [12, 13] (fun v nv wx => ∃ (vv nn : Nat) (B3 : List Int) (E3 : Int), v = .int .i64 vv ∧ nv = .int .i64 nn ∧ nn ≤ 300 ∧ Hid (SwRel w3 r gb go gq lim dn s B out L A al rows (B'.length - 1) vv nn B3 E3 wx))
                        case first =>
                          rcases (show Sn < 16 ∨ Sn = 16 ∨ Sn = 17 ∨ Sn = 18 by omega) with hS | rfl | rfl | rfl
                          · have h16 : ((Sn : Int) == 16) = false := by simp; omega
                            have h17 : ((Sn : Int) == 17) = false := by simp; omega
                            have h18 : ((Sn : Int) == 18) = false := by simp; omega
                            have HP : Hid (SwRel w3 r gb go gq lim dn s B out L A al rows (B'.length - 1) Sn 1 B2 0 w3) := by
                              refine ⟨HA3.out.1, hb3, by omega, Fr.refl _ _ _, fun e => absurd rfl e, fun _ => ⟨?_, by omega⟩⟩
                              have := HZH.out.2.2.2.2 (by omega)
                              exact this
                            clear HA3 HZH HG
                            go_wp2
                            go_meet
                            exact ⟨Sn, 1, B2, 0, rfl, rfl, by decide, HP.out⟩
                          · by_cases hr0 : rows = []
                            · subst hr0
                              have HP : Hid (SwRel w3 r gb go gq lim dn s B out L A al [] (B'.length - 1) 16 1 B2 5 (w3.setCell ⟨r, 4, none⟩ (.int .i64 5))) := ⟨HA3.out.1.setE 5, hb3, by omega, (Fr.refl _ _ _).snoc _ _, fun _ => HZH.out.1 rfl rfl, (fun e => by cases e)⟩
                              clear HA3 HZH HG
                              go_wp2
                              go_meet
                              exact ⟨16, 1, B2, 5, rfl, rfl, by decide, HP.out⟩
                            · have hrl : rows.length ≠ 0 := fun e => hr0 (List.length_eq_zero_iff.1 e)
                              have hrb : ((rows.length : Int) == 0) = false := by simp; omega
                              obtain ⟨p, hp⟩ : ∃ p, rows.length - 1 = p := ⟨_, rfl⟩
                              have hpi : (rows.length : Int) - 1 = (p : Int) := by omega
                              have hpl : (0 : Int) ≤ (p : Int) ∧ (p : Int) < (rows.length : Int) := by omega
                              have hpw : IntKind.i64.wrap (p : Int) = (p : Int) := by rw [IntKind.wrap_i64]; omega
                              obtain ⟨x, hvx, hxw, hsy⟩ := own_sy HA3.out.2.2.2 (by intro e; exact hrl (by rw [← ints_len rows, e]; rfl)) 0
                              simp only [Value.slice.injEq] at hvx
                              obtain ⟨rfl, hx1, hx2⟩ := hvx
                              clear hx1 hx2 hxw
                              obtain ⟨b', off', e1, hcell⟩ := hsy.irow2.at p (by rw [ints_len]; omega)
                              cases e1
                              rw [ints_at, Nat.zero_add] at hcell
                              obtain ⟨ls, hls⟩ : ∃ ls, hn rows p = ls := ⟨_, rfl⟩
                              have hls2 : rows[rows.length - 1]?.getD 0 = ls := by rw [hp]; exact hls
                              rw [hls] at hcell
                              have hls15 : ls ≤ 15 := by
                                rw [← hls2, List.getElem?_eq_getElem (by omega)]
                                exact HG.out.2.2.2 _ (List.getElem_mem _)
                              obtain ⟨Y, hY, hY3⟩ := tkR_small (E := 0) (k := 2) hb3 (Nat.le_refl 2)
                              have hb4 := tkR_bits (E := 0) (n := 2) hb3
                              obtain ⟨o3, ho3⟩ : ∃ o3, tkR 0 B2 2 = o3 := ⟨_, rfl⟩
                              have hz := HZH.out.2.1 rfl hr0 o3 ho3
                              have HT : Hid (∀ j, Calls Tryz.prog 46 #[.pointer (some ⟨r, 0, none⟩), .int .i64 2] (w3.drewN j) fun e w4 => TkPost (w3.drewN j) r gb go gq out lim dn o3 e w4) := fun j => by
                                rw [← ho3]; exact rtake_any 2 (by decide) hb3 (HA3.out.1.drewN j)
                              rw [ho3] at hY hb4
                              clear ho3
                              obtain ⟨y1, B3, E3⟩ := o3
                              simp only at hY hb4 hz
                              subst hY
                              rw [hls2] at hz
                              have hYb : Y ≤ 4 := by have : (2 : Nat) ^ 2 = 4 := rfl; omega
                              obtain ⟨Z, hZ⟩ : ∃ Z, Y + 3 = Z := ⟨_, rfl⟩
                              have hZi : (Y : Int) + 3 = (Z : Int) := by omega
                              have hZ7 : Z ≤ 7 := by omega
                              have HZW : Hid (IntKind.i64.wrap (Z : Int) = (Z : Int)) := by show _ = _; rw [IntKind.wrap_i64]; omega
                              have HT2 : Hid (∀ j, Calls Tryz.prog 46 #[.pointer (some ⟨r, 0, none⟩), .int .i64 2] (w3.drewN j) fun e w4 => e = .returned (.int .i64 Y) ∧ w4.cell? ⟨x.b, p, none⟩ = some (.int .i64 ls) ∧ Hid (SwRel w3 r gb go gq lim dn s B out L A al rows (B'.length - 1) ls Z B3 E3 w4)) := by
                                intro j
                                refine (HT.out j).mono ?_
                                rintro e w4 ⟨rfl, a4, f4⟩
                                refine ⟨rfl, ?_, a4, hb4.1, by omega, ⟨f4.os, f4.tape, f4.output, f4.size, f4.block⟩, hz.1, fun e => ⟨?_, hls15⟩⟩
                                · have hne : x.b ≠ r := by
                                    have h1 := own_blk HA3.out.2.2.2 x.b rfl
                                    have h2 := HWQ.out.2.2.1.lt
                                    omega
                                  have := f4.block x.b (cell_lt (w := w3) hcell) hne (by simp)
                                  unfold World.cell? at hcell ⊢
                                  rw [this]
                                  exact hcell
                                · have := hz.2 e
                                  rw [show 3 + (Y : Int).toNat = Z by omega] at this
                                  exact this
                              clear hZ hz hY3 HT hb4 HA3 HZH HG hsy hls hls2 hp
                              go_wp2
                              go_region_with (first
                                | (go_at_call 46; refine Calls.mono (HT2.out _) ?_; rintro e w4 ⟨rfl, kc4, hp4⟩))
                              all_goals
                                go_wp2_with fail
                                go_meet
                                exact ⟨ls, Z, B3, E3, rfl, by rw [HZW.out], by omega, hp4.out⟩
                          · have HT := rtake_any 3 (by decide) hb3 HA3.out.1
                            obtain ⟨Y, hY, hY3⟩ := tkR_small (E := 0) (k := 3) hb3 (Nat.le_refl 3)
                            have hb4 := tkR_bits (E := 0) (n := 3) hb3
                            have hz := HZH.out.2.2.1 rfl
                            obtain ⟨o3, ho3⟩ : ∃ o3, tkR 0 B2 3 = o3 := ⟨_, rfl⟩
                            have hz := hz o3 ho3
                            rw [ho3] at HT hY hb4
                            clear ho3
                            obtain ⟨y1, B3, E3⟩ := o3
                            simp only at hY hb4 hz
                            subst hY
                            have hYb : Y ≤ 8 := by have : (2 : Nat) ^ 3 = 8 := rfl; omega
                            have HZ2 : Hid _ := hz
                            clear hz hY3
                            go_wp2_with fail
                            refine HT.mono ?_
                            rintro e w4 ⟨rfl, a4, f4⟩
                            simp only at a4
                            have HP : Hid (SwRel w3 r gb go gq lim dn s B out L A al rows (B'.length - 1) 0 (Y + 3) B3 E3 w4) := by
                              refine ⟨a4, hb4.1, by omega, f4, HZ2.out.1, fun e => ⟨?_, by omega⟩⟩
                              have := HZ2.out.2 e
                              rw [show 3 + (Y : Int).toNat = Y + 3 by omega] at this
                              exact this
                            clear HT a4 f4 HA3 HZH HZ2 HG
                            go_wp2
                            go_meet
                            exact ⟨0, Y + 3, B3, E3, rfl, by go_num, by omega, HP.out⟩
                          · have HT := rtake_any 7 (by decide) hb3 HA3.out.1
                            obtain ⟨Y, hY, hY3⟩ := tkR_small (E := 0) (k := 7) hb3 (Nat.le_refl 7)
                            have hb4 := tkR_bits (E := 0) (n := 7) hb3
                            have hz := HZH.out.2.2.2.1 rfl
                            obtain ⟨o3, ho3⟩ : ∃ o3, tkR 0 B2 7 = o3 := ⟨_, rfl⟩
                            have hz := hz o3 ho3
                            rw [ho3] at HT hY hb4
                            clear ho3
                            obtain ⟨y1, B3, E3⟩ := o3
                            simp only at hY hb4 hz
                            subst hY
                            have hYb : Y ≤ 128 := by have : (2 : Nat) ^ 7 = 128 := rfl; omega
                            have HZ2 : Hid _ := hz
                            clear hz hY3
                            go_wp2_with fail
                            refine HT.mono ?_
                            rintro e w4 ⟨rfl, a4, f4⟩
                            simp only at a4
                            have HP : Hid (SwRel w3 r gb go gq lim dn s B out L A al rows (B'.length - 1) 0 (Y + 11) B3 E3 w4) := by
                              refine ⟨a4, hb4.1, by omega, f4, HZ2.out.1, fun e => ⟨?_, by omega⟩⟩
                              have := HZ2.out.2 e
                              rw [show 11 + (Y : Int).toNat = Y + 11 by omega] at this
                              exact this
                            clear HT a4 f4 HA3 HZH HZ2 HG
                            go_wp2
                            go_meet
                            exact ⟨0, Y + 11, B3, E3, rfl, by go_num, by omega, HP.out⟩
                        case rest =>
                          obtain ⟨vv, nn, B3, E3, rfl, rfl, hn300, HSW⟩ := hcut
                          obtain ⟨df, hdf⟩ : ∃ df, al - rows.length = df := ⟨_, rfl⟩
                          have hdi : (al : Int) - (rows.length : Int) = (df : Int) := by omega
                          have q5 := HSW.out.1.cE
                          clear HZH q4
                          have HFb := rfail_any (decide (df < nn)) 5 HSW.out.1
                          obtain ⟨E4, hE4⟩ : ∃ E4, flE E3 (decide (df < nn)) 5 = E4 := ⟨_, rfl⟩
                          have HE4 : Hid (flE E3 (decide (df < nn)) 5 = E4 ∧ al - rows.length = df) := ⟨hE4, hdf⟩
                          rw [hE4] at HFb
                          clear hE4
                          go_wp2_with fail
                          refine HFb.mono ?_
                          rintro e w5 ⟨rfl, a5, f5, c5⟩
                          clear c5
                          have HI0 : Hid (ApRel W2 r gb go gq lim dn out rows vv B3 E4 0 (.slice ao rows.length co) w5) := by
                            refine ⟨a5, (HA3.out.2.2.1.trans HSW.out.2.2.2.1 (.inl rfl)).trans f5 (.inl rfl), ?_, fun _ => rfl⟩
                            have := own_fr (own_fr HA3.out.2.2.2 HSW.out.2.2.2.1 HWQ.out.2.2.1.lt) f5 HWQ.out.2.2.1.lt
                            rw [List.replicate_zero, List.append_nil]
                            exact this
                          have HXT : Hid (∀ wr o, ApRel W2 r gb go gq lim dn out rows vv B3 E4 nn o wr → E4 = 0 → TdRel W2 r gb go gq lim dn s B out L A al (B3.length + 1) o wr) := by
                            rintro wr o ⟨x1, x2, x3, _⟩ rfl
                            have h := HE4.out.1
                            unfold flE at h
                            have hE3 : E3 = 0 := by
                              by_cases h3 : E3 = 0
                              · exact h3
                              · rw [if_neg (fun h => h3 h.1)] at h; exact h
                            have hnd : ¬ df < nn := by
                              intro hd
                              rw [if_pos ⟨hE3, by simpa using hd⟩] at h
                              cases h
                            have hLS := HSW.out.2.2.2.2.2 hE3
                            have hs := leng_said hLS.1
                            have hdf := HE4.out.2
                            have hlen : (rows ++ List.replicate nn vv).length = rows.length + nn := by simp
                            refine ⟨rows ++ List.replicate nn vv, B3, 0, x1, HSW.out.2.1, Nat.le_trans HSW.out.2.2.1 (by omega), x2, x3, by omega, fun x hx => ?_, fun _ => Nat.le_refl _, fun _ hlt => hs.2.1 (by omega), fun _ he => hs.2.2 (by omega), fun e => absurd rfl e⟩
                            rcases List.mem_append.1 hx with h | h
                            · exact HG.out.2.2.2 x h
                            · rw [(List.mem_replicate.1 h).2]; exact hLS.2
                          have HXE : Hid (∀ wr o, ApRel W2 r gb go gq lim dn out rows vv B3 E4 0 o wr → E4 ≠ 0 → TdRel W2 r gb go gq lim dn s B out L A al 0 o wr) := by
                            rintro wr o ⟨x1, x2, x3, _⟩ hne
                            rw [List.replicate_zero, List.append_nil] at x3
                            refine ⟨rows, B3, E4, x1, HSW.out.2.1, Nat.le_trans HSW.out.2.2.1 (by omega), x2, x3, by omega, HG.out.2.2.2, fun e => absurd e hne, fun e => absurd e hne, fun e => absurd e hne, fun _ => ?_⟩
                            have h := HE4.out.1
                            unfold flE at h
                            by_cases h3 : E3 = 0
                            · by_cases hd : df < nn
                              · rw [if_pos ⟨h3, by simpa using hd⟩] at h
                                rw [← h]
                                have hdf := HE4.out.2
                                exact (leng_said (HSW.out.2.2.2.2.2 h3).1).1 (by omega)
                              · rw [if_neg (fun h => hd (by simpa using h.2))] at h
                                exact absurd (h.symm.trans h3) hne
                            · rw [if_neg (fun h => h3 h.1)] at h
                              rw [← h]
                              exact HSW.out.2.2.2.2.1 h3
                          have hB3 : B3.length ≤ B'.length - 1 := HSW.out.2.2.1
                          have HRB : Hid (r < W2.heap.size ∧ rows.length ≤ 400) := ⟨HWQ.out.2.2.1.lt, by omega⟩
                          clear HFb a5 f5 HSW HA3 HG q5 HE4 hdf hdi
                          go_wp2
                          go_loopg [10, 14] nn (fun g o i wq => ∃ t : Nat, t ≤ nn ∧ g = nn - t ∧ i = .int .i64 t ∧ Hid (ApRel W2 r gb go gq lim dn out rows vv B3 E4 t o wq))
                          case atStart => exact ⟨0, Nat.zero_le _, rfl, rfl, HI0.out⟩
                          case round =>
                            clear HI0
                            obtain ⟨t, ht, hgt, rfl, HX⟩ := hrel
                            have k4 := HX.out.1.cE
                            by_cases hE4z : E4 = 0
                            · subst hE4z
                              by_cases hlt2 : t < nn
                              · have hlti2 : (t : Int) < (nn : Int) := by omega
                                go_wp2_with (at_builtin; refine wpList_push_bit rfl _ _ rfl W2.heap.size _ (ints (rows ++ List.replicate t vv)) rfl (own_kept HX.out.2.2.1 fun k _ hk => Below.heap_alloc _ _ _ hk) (vv : Int) wr.heap.size rfl (heap_alloc_new _ _) (by rw [ints_len]; simp; have := HRB.out.2; omega) (by have := HX.out.2.1.size; simp; omega) ?_)
                                intro v' w' hown' hg'
                                have HN1 : Hid (ApRel W2 r gb go gq lim dn out rows vv B3 0 (t + 1) v' w') := by
                                  have hblk := own_blk HX.out.2.2.1
                                  have hsz := HX.out.2.1.size
                                  have hold : ∀ k, k < W2.heap.size → w'.heap[k]? = wr.heap[k]? := fun k hk => (hg'.block k (by simp; omega) (fun e => by have := hblk k e.symm; omega)).trans (Below.heap_alloc _ _ _ (by omega))
                                  have hbl := HWQ.out.2.2.1.blks
                                  have hrl := HWQ.out.2.2.1.lt
                                  have hgs := hg'.size
                                  have hga : (wr.alloc (.cells #[.int .i64 (vv : Int)] 3)).heap.size = wr.heap.size + 1 := by simp
                                  refine ⟨HX.out.1.same (hold r hrl) (fun k hk => hold k (hbl.1 k hk)) (fun k hk => hold k (hbl.2.1 k hk)) (fun k hk => hold k (hbl.2.2 k hk)), ⟨hg'.os.trans HX.out.2.1.os, hg'.tape.trans HX.out.2.1.tape, hg'.output.trans HX.out.2.1.output, by omega, fun k hk h1 h2 => (hold k hk).trans (HX.out.2.1.block k hk h1 h2)⟩, ?_, fun e => absurd rfl e⟩
                                  have el : ints (rows ++ List.replicate (t + 1) vv) = ints (rows ++ List.replicate t vv) ++ [(vv : Int)] := by
                                    rw [List.replicate_succ', ← List.append_assoc]; simp [ints]
                                  rw [el, List.length_append]
                                  exact hown'
                                clear hown' hg' HX k4
                                go_wp2
                                go_roundg (nn - (t + 1))
                                case rel => exact ⟨t + 1, by omega, rfl, by go_num, HN1.out⟩
                                case measure => omega
                              · obtain rfl : nn = t := by omega
                                have hlti2 : ¬ (nn : Int) < (nn : Int) := by omega
                                have HN1 : Hid _ := HXT.out _ _ HX.out rfl
                                clear HX
                                go_wp2
                                go_roundg (B3.length + 1)
                                case rel => exact HN1.out
                                case measure => omega
                            · have hE4b : (E4 == 0) = false := by simpa using hE4z
                              obtain rfl : 0 = t := (HX.out.2.2.2 hE4z).symm
                              have HN1 : Hid _ := HXE.out _ _ HX.out hE4z
                              clear HX
                              by_cases hlt2 : 0 < nn
                              · have hlti2 : (0 : Int) < (nn : Int) := by omega
                                go_wp2
                                go_roundg 0
                                case rel => exact HN1.out
                                case measure => omega
                              · have hlti2 : ¬ (0 : Int) < (nn : Int) := by omega
                                go_wp2
                                go_roundg 0
                                case rel => exact HN1.out
                                case measure => omega
                      · have herb : (er == 0) = false := by simpa using her
                        have HP : Hid (TdEnd W2 r gb go gq lim dn s B out A al (.slice ao rows.length co) w3) := ⟨rows, B2, er, HA3.out.1, hb3, by omega, HA3.out.2.2.1, HA3.out.2.2.2, HG.out.2.2.2, fun e => absurd e her, fun _ => HLSH.out.1 her⟩
                        clear HA3 HLSH HG
                        go_wp2
                        go_meet
                        exact HP.out
                    · have hlti : ¬ (rows.length : Int) < (al : Int) := by omega
                      have HP : Hid (TdEnd W2 r gb go gq lim dn s B out A al (.slice ao rows.length co) wr) := ⟨rows, B', 0, ra, hb', hl', hfr, hown, hr15, fun _ => ⟨by omega, hend rfl (by omega)⟩, fun e => absurd rfl e⟩
                      clear ra hfr hown hr15 hat hend hsays HG
                      go_wp2
                      go_meet
                      exact HP.out
                  · have hEb : (E' == 0) = false := by simpa using hE
                    have HP : Hid (TdEnd W2 r gb go gq lim dn s B out A al (.slice ao rows.length co) wr) := ⟨rows, B', E', ra, hb', hl', hfr, hown, hr15, fun e => absurd e hE, fun _ => hsays hE⟩
                    clear ra hfr hown hr15 hat hend hsays HG
                    by_cases hlt : rows.length < al
                    · have hlti : (rows.length : Int) < (al : Int) := by omega
                      go_wp2
                      go_meet
                      exact HP.out
                    · have hlti : ¬ (rows.length : Int) < (al : Int) := by omega
                      go_wp2
                      go_meet
                      exact HP.out
              case rest =>
                clear HT0
                obtain ⟨rows, B', E', ra, hb', hl', hfr, hown, hr15, hend, hsays⟩ := hcut
                have k4 := ra.cE
                have HFW : Hid (Fr w wc r none) := HWQ.out.2.2.2.trans hfr (.inl rfl)
                obtain ⟨ao, co, hvo⟩ := own_shape hown
                rw [ints_len] at hvo
                subst hvo
                by_cases hE : E' = 0
                · subst hE
                  obtain ⟨hal2, hes⟩ := hend rfl
                  have HES := end_said hes
                  have htl : (rows.take A).length = A := by rw [List.length_take]; omega
                  have hdl : (rows.drop A).length = al - A := by rw [List.length_drop]; omega
                  obtain ⟨x, hvx, hxw, hsy⟩ := own_sy hown (by intro e; have h9 := ints_len rows; rw [e] at h9; simp at h9; omega) 0
                  have hir := hsy.irow2
                  have hs3 := hsy.2.2.1
                  have hs4 := hsy.2.2.2.1
                  rw [hal2] at hvx
                  simp only [Value.slice.injEq] at hvx
                  obtain ⟨rfl, hx1, rfl⟩ := hvx
                  rw [← hx1] at hs3
                  obtain ⟨g, hg⟩ : ∃ g, x.b = g := ⟨_, rfl⟩
                  obtain ⟨cp, hcp⟩ : ∃ cp, x.c = cp := ⟨_, rfl⟩
                  rw [hg] at hir
                  rw [hcp] at hs3 hs4
                  have hmx : cp ≤ 140737488355328 ∨ True := .inr trivial
                  have hcell : ∀ i, i < al → wc.cell? ⟨g, i, none⟩ = some (.int .i64 (hn rows i)) := by
                    intro i hi
                    obtain ⟨b', off', e1, hc⟩ := hir.at i (by rw [ints_len]; omega)
                    cases e1
                    rw [ints_at, Nat.zero_add] at hc
                    exact hc
                  have hI1 : IRow wc (some ⟨g, 0, none⟩) (ints (rows.take A)) := by
                    refine .inr ⟨g, 0, rfl, fun i hi => ?_⟩
                    rw [ints_len, htl] at hi
                    rw [Nat.zero_add, hcell i (by omega), ints_at]
                    unfold hn
                    rw [List.getElem?_take, if_pos hi]
                  have hI2 : IRow wc (some ⟨g, A, none⟩) (ints (rows.drop A)) := by
                    refine .inr ⟨g, A, rfl, fun i hi => ?_⟩
                    rw [ints_len, hdl] at hi
                    rw [hcell (A + i) (by omega), ints_at]
                    unfold hn
                    rw [List.getElem?_drop]
                  have h15a : ∀ x ∈ rows.take A, x ≤ 15 := fun x hx => hr15 x (List.mem_of_mem_take hx)
                  have h15b : ∀ x ∈ rows.drop A, x ≤ 15 := fun x hx => hr15 x (List.mem_of_mem_drop hx)
                  have HCk1 := check_any (some ⟨g, 0, none⟩) A cp (ints (rows.take A)) wc.drew (by rw [ints_len, htl]) (by omega) hI1
                  have HCk2 := check_any (some ⟨g, A, none⟩) (al - A) (cp - A) (ints (rows.drop A)) wc.drew (by rw [ints_len, hdl]) (by omega) hI2
                  rw [checkV_ints (by omega) h15a] at HCk1
                  rw [checkV_ints (by omega) h15b] at HCk2
                  have hgr : g ≠ r := by
                    have h1 := own_blk hown g (by rw [hg]; rfl)
                    have h2 := HWQ.out.2.2.1.lt
                    omega
                  have hgs : g < wc.heap.size := cell_lt (hcell 0 (by omega))
                  have HFN : Hid (RunAt wc.drew r gb go gq B' out lim 0 dn ∧ (∀ w9, ((rows[256]?.getD 0) = 0 ∨ wholeB (ints (rows.take A)) = false ∨ wholeB (ints (rows.drop A)) = false) → RunAt w9 r gb go gq B' out lim 5 dn → Fr wc.drew w9 r none → TdPost w r gb go gq lim dn s B out (.returned (.tuple #[.slice (some ⟨g, 0, none⟩) A cp, .slice (some ⟨g, A, none⟩) (al - A) (cp - A)])) w9) ∧
                      (∀ w9, ¬ ((rows[256]?.getD 0) = 0 ∨ wholeB (ints (rows.take A)) = false ∨ wholeB (ints (rows.drop A)) = false) → RunAt w9 r gb go gq B' out lim 0 dn → Fr wc.drew w9 r none → TdPost w r gb go gq lim dn s B out (.returned (.tuple #[.slice (some ⟨g, 0, none⟩) A cp, .slice (some ⟨g, A, none⟩) (al - A) (cp - A)])) w9)) := by
                    have hFd : Fr w wc.drew r none := ⟨HFW.out.os, HFW.out.tape, HFW.out.output, HFW.out.size, HFW.out.block⟩
                    refine ⟨ra.old ⟨rfl, rfl, rfl, Nat.le_refl _, fun _ _ => rfl⟩, fun w9 h h1 h2 => ?_, fun w9 h h1 h2 => ?_⟩
                    · exact ⟨_, _, _, _, _, _, B', 5, rfl, h1, hb', hl', hFd.trans h2 (.inl rfl), fun _ => HES.1 h, (fun e => by cases e)⟩
                    · have hsm : ∀ {a : Option Addr} {l : List Int}, (∀ y, a = some y → y.block = g) → IRow wc a l → IRow w9 a l := by
                        intro a l hy hh
                        rcases hh with hh | ⟨b', off', rfl, hc⟩
                        · exact .inl hh
                        · refine .inr ⟨b', off', rfl, fun i hi => ?_⟩
                          have hbg : b' = g := hy _ rfl
                          have h5 := h2.block b' (by show b' < wc.heap.size; omega) (by omega) (by simp)
                          have h6 := hc i hi
                          unfold World.cell? at h6 ⊢
                          rw [h5]; exact h6
                      have hw1 : wholeB (ints (rows.take A)) = true := by
                        cases e : wholeB (ints (rows.take A)) with
                        | true => rfl
                        | false => exact absurd (.inr (.inl e)) h
                      have hw2 : wholeB (ints (rows.drop A)) = true := by
                        cases e : wholeB (ints (rows.drop A)) with
                        | true => rfl
                        | false => exact absurd (.inr (.inr e)) h
                      exact ⟨_, _, _, _, _, _, B', 0, rfl, h1, hb', hl', hFd.trans h2 (.inl rfl), fun e => absurd rfl e, fun _ => ⟨_, _, htl, hdl, ints_cd (by omega) h15a hw1, ints_cd (by omega) h15b hw2, hsm (fun y hy => by cases hy; rfl) hI1, hsm (fun y hy => by cases hy; rfl) hI2, HES.2 h⟩⟩
                  have hz := hcell 256 (by omega)
                  have hAi2 : (0 : Int) ≤ (A : Int) ∧ (A : Int) ≤ (al : Int) ∧ (al : Int) ≤ (cp : Int) ∧ (A : Int) ≤ (cp : Int) := by omega
                  have h256 : (256 : Int) < (A : Int) := by omega
                  rw [hal2, hg, hcp]
                  have HH : Hid (hn rows 256 = rows[256]?.getD 0) := rfl
                  clear hir hown hes HES hend hsays ra hfr hb' hl' hI1 hI2 hcell hr15 h15a h15b hx1 hxw hsy hgr hgs hg hcp HWQ htl hdl hmx
                  obtain ⟨Z, hZ⟩ : ∃ Z, hn rows 256 = Z := ⟨_, rfl⟩
                  rw [hZ] at hz
                  go_wp2
                  go_region
                  by_cases hZ0 : Z = 0
                  · subst hZ0
                    have HFa := rfail_any true 5 HFN.out.1
                    rw [show flE 0 true 5 = 5 from rfl] at HFa
                    go_wp2_with fail
                    refine HFa.mono ?_
                    rintro e w9 ⟨rfl, a9, f9, c9⟩
                    clear c9
                    have HP : Hid _ := HFN.out.2.1 w9 (.inl (HH.out.symm.trans hZ)) a9 f9
                    clear a9 f9 HFa HFN
                    go_wp2
                    go_ret2
                    exact HP.out
                  · have hZb : ((Z : Int) == 0) = false := by simpa using hZ0
                    by_cases hw1 : wholeB (ints (rows.take A)) = true
                    · rw [hw1, if_pos rfl] at HCk1
                      go_wp2_with fail
                      refine HCk1.mono ?_
                      rintro e w8 ⟨rfl, hw8⟩
                      rw [hw8]
                      clear hw8 w8
                      by_cases hw2 : wholeB (ints (rows.drop A)) = true
                      · rw [hw2, if_pos rfl] at HCk2
                        go_wp2_with fail
                        refine HCk2.mono ?_
                        rintro e w8 ⟨rfl, hw8⟩
                        rw [hw8]
                        clear hw8 w8
                        have HFa := rfail_any false 5 HFN.out.1
                        rw [show flE 0 false 5 = 0 from rfl] at HFa
                        go_wp2_with fail
                        refine HFa.mono ?_
                        rintro e w9 ⟨rfl, a9, f9, c9⟩
                        clear c9
                        have HP : Hid _ := HFN.out.2.2 w9 (by rintro (h | h | h); exact hZ0 (hZ.symm.trans (HH.out.trans h)); rw [hw1] at h; cases h; rw [hw2] at h; cases h) a9 f9
                        clear a9 f9 HFa HFN
                        go_wp2
                        go_ret2
                        exact HP.out
                      · have hw2' : wholeB (ints (rows.drop A)) = false := by simpa using hw2
                        rw [hw2', if_neg (by decide)] at HCk2
                        go_wp2_with fail
                        refine HCk2.mono ?_
                        rintro e w8 ⟨rfl, hw8⟩
                        rw [hw8]
                        clear hw8 w8
                        have HFa := rfail_any true 5 HFN.out.1
                        rw [show flE 0 true 5 = 5 from rfl] at HFa
                        go_wp2_with fail
                        refine HFa.mono ?_
                        rintro e w9 ⟨rfl, a9, f9, c9⟩
                        clear c9
                        have HP : Hid _ := HFN.out.2.1 w9 (.inr (.inr hw2')) a9 f9
                        clear a9 f9 HFa HFN
                        go_wp2
                        go_ret2
                        exact HP.out
                    · have hw1' : wholeB (ints (rows.take A)) = false := by simpa using hw1
                      rw [hw1', if_neg (by decide)] at HCk1
                      go_wp2_with fail
                      refine HCk1.mono ?_
                      rintro e w8 ⟨rfl, hw8⟩
                      rw [hw8]
                      clear hw8 w8
                      have HFa := rfail_any true 5 HFN.out.1
                      rw [show flE 0 true 5 = 5 from rfl] at HFa
                      go_wp2_with fail
                      refine HFa.mono ?_
                      rintro e w9 ⟨rfl, a9, f9, c9⟩
                      clear c9
                      have HP : Hid _ := HFN.out.2.1 w9 (.inr (.inl hw1')) a9 f9
                      clear a9 f9 HFa HFN
                      go_wp2
                      go_ret2
                      exact HP.out
                · have hEb : (E' == 0) = false := by simpa using hE
                  have HP : Hid (TdPost w r gb go gq lim dn s B out (.returned (.tuple #[.slice none 0 0, .slice none 0 0])) wc) := TdPost.no ra hE hb' hl' HFW.out (hsays hE)
                  clear ra hfr hown hr15 hend hsays HWQ
                  go_wp2
                  go_ret2
                  exact HP.out
            · have hwf : wholeB (ints L) = false := by simpa using hwh
              have HWd := words_loose (some ⟨G, 0, none⟩) 19 19 L wr HLI.out.1 (by decide) HW.out.2.1.irow
              go_wp2_with fail
              refine HWd.mono ?_
              rintro e W ⟨aw, nw, cw, rfl, b1⟩
              have HRW : Hid (RunAt W r gb go gq B5 out lim 0 dn ∧ LRow W G (ints L) ∧ Fr w W r none) := ⟨HW.out.1.old b1, HW.out.2.1.same (b1.block G (lt_of_block HW.out.2.1)), HW.out.2.2.trans (Fr.of_heap b1) (.inl rfl)⟩
              have HCk := check_any (some ⟨G, 0, none⟩) 19 19 (ints L) W (by rw [ints_len]; exact HLI.out.1) (by decide) HRW.out.2.1.irow
              rw [checkV_ints (by rw [HLI.out.1]; decide) HLI.out.2, hwf, if_neg (by decide)] at HCk
              clear HWd b1 HW
              go_wp2_with fail
              refine HCk.mono ?_
              rintro e W' ⟨rfl, hW'⟩
              subst hW'
              have HFa := rfail_any true 5 HRW.out.1
              rw [show flE 0 true 5 = 5 from rfl] at HFa
              go_wp2_with fail
              refine HFa.mono ?_
              rintro e W2 ⟨rfl, a6, f6, c6⟩
              clear c6
              have q6 := a6.cE
              have HP : Hid (TdPost w r gb go gq lim dn s B out (.returned (.tuple #[.slice none 0 0, .slice none 0 0])) W2) := TdPost.no a6 (by decide) hb5 (by omega) (HRW.out.2.2.trans f6 (.inl rfl)) (HC6.out.1 (.inl hwf))
              have hadp : (0 : Int) < (A : Int) + (D : Int) := by omega
              clear HFa HCk a6 f6 HRW HC6
              go_wp2
              go_loopg [10, 11, 12, 13, 14] 0 (fun fu o _ _ _ _ wx => W2 = wx ∧ o = .slice none 0 0)
              case atStart => exact ⟨rfl, rfl⟩
              case round =>
                obtain ⟨rfl, rfl⟩ := hrel
                go_wp2
                go_ret2
                exact HP.out
end
end Go.Proofs.YtloagniacjfkfaaGreatDoor
