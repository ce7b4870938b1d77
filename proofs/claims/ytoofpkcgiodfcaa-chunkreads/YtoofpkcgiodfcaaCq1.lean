/- A chunk of which bits are turned, as the document reads it. -/
import Derived.Test.YtoofpkcgiodfcaaCp4
import Derived.Test.YtoofpkcgiodfcaaTrB
namespace Go.Proofs.Ytoofpkcgiodfcaa
open Go.RowKit
theorem octs4 (v : Int) : octs v 4 = [oct v 0, oct v 1, oct v 2, oct v 3] := rfl
theorem big_octs (v : Int) (h0 : 0 ≤ v) (h1 : v < 4294967296) : bigN (octs v 4).reverse = v := by
  rw [bigN_reverse, octs4]
  simp only [litN, oct]
  simp
  omega
theorem big_inj {zs ys : List Int} (hz : Bytes zs) (hy : Bytes ys) (hl : zs.length = ys.length) (h : bigN zs = bigN ys) : zs = ys := by
  have := litN_inj (bytes_rev hz) (bytes_rev hy) (by simpa using hl) (by rw [litN_reverse, litN_reverse]; exact h)
  simpa using congrArg List.reverse this
section
variable {B4 body sum : List Int} {n : Nat}
theorem parts_cN (hB : B4.length = 4) (hb : bigN B4 = (n : Int)) : cN (B4 ++ (body ++ sum)) = n := by
  unfold cN
  rw [List.take_left' hB, hb]
  omega
theorem parts_cK (hB : B4.length = 4) (h4 : 4 ≤ body.length) : cK (B4 ++ (body ++ sum)) = body.take 4 := by
  unfold cK
  rw [List.drop_left' hB, List.take_append_of_le_length h4]
theorem parts_cD (hB : B4.length = 4) (hb : bigN B4 = (n : Int)) (hl : body.length = 4 + n) : cD (B4 ++ (body ++ sum)) = body.drop 4 := by
  unfold cD
  rw [parts_cN hB hb, show (8 : Nat) = 4 + 4 from rfl, ← List.drop_drop, List.drop_left' hB, List.drop_append_of_le_length (by omega), List.take_left' (by rw [List.length_drop]; omega)]
theorem parts_cW (hB : B4.length = 4) (hb : bigN B4 = (n : Int)) (hl : body.length = 4 + n) : cW (B4 ++ (body ++ sum)) = crcM (BitVec.ofNat 32 0) body := by
  unfold cW
  rw [parts_cN hB hb, List.drop_left' hB, List.take_left' hl]
theorem parts_cS (hB : B4.length = 4) (hb : bigN B4 = (n : Int)) (hl : body.length = 4 + n) (hs : sum.length = 4) : cS (B4 ++ (body ++ sum)) = bigN sum := by
  unfold cS
  rw [parts_cN hB hb, show 8 + n = 4 + (4 + n) by omega, ← List.drop_drop, List.drop_left' hB, List.drop_left' hl, List.take_of_length_le (by omega)]
theorem parts_len (hB : B4.length = 4) (hl : body.length = 4 + n) (hs : sum.length = 4) : (B4 ++ (body ++ sum)).length = 12 + n := by
  rw [List.length_append, List.length_append]; omega
/-- A sum that isn't right. -/
theorem parts_bad (hB : B4.length = 4) (hb : bigN B4 = (n : Int)) (hn : n ≤ 1048576) (hl : body.length = 4 + n) (hs : sum.length = 4) (hne : bigN sum ≠ ((crcM (BitVec.ofNat 32 0) body).toNat : Int)) :
    ∃ W er, ofAll (first8 ++ (B4 ++ (body ++ sum))) = (W, er) ∧ (er = 3 ∨ er = 4) ∧ ∀ s ∈ W, s.fin = false := by
  rw [ofAll_first]
  have hlen := parts_len hB hl hs
  cases hk : isK (body.take 4) with
  | false =>
    exact ⟨[], 3, ps_kind (by omega) (by rw [parts_cN hB hb]; exact hn) (by rw [parts_cK hB (by omega)]; exact hk), .inl rfl, by simp⟩
  | true =>
    refine ⟨_, 4, ps_sum (by rw [parts_cN hB hb]; exact hn) (by rw [parts_cK hB (by omega)]; exact hk) (by rw [parts_cN hB hb]; omega) (by rw [parts_cS hB hb hl hs, parts_cW hB hb hl]; exact hne), .inr rfl, ?_⟩
    intro s hs
    simp only [List.mem_singleton] at hs
    subst hs
    rfl
/-- One that is. -/
theorem parts_good (hB : B4.length = 4) (hb : bigN B4 = (n : Int)) (hn : n ≤ 1048576) (hl : body.length = 4 + n) (hs : sum.length = 4) (hk : isK (body.take 4) = true) (he : bigN sum = ((crcM (BitVec.ofNat 32 0) body).toNat : Int)) :
    ofAll (first8 ++ (B4 ++ (body ++ sum))) = ([⟨body.take 4, n, body.drop 4, true⟩], 0) := by
  rw [ofAll_first]
  have h := ps_whole (c := B4 ++ (body ++ sum)) (by rw [parts_cN hB hb]; exact hn) (by rw [parts_cK hB (by omega)]; exact hk) (by rw [parts_cN hB hb]; exact parts_len hB hl hs) (by rw [parts_cS hB hb hl hs, parts_cW hB hb hl]; exact he) []
  rw [List.append_nil, ps_nil, parts_cN hB hb, parts_cK hB (by omega), parts_cD hB hb hl] at h
  exact h
end
theorem gath1_keeps {l l' : List Sn} {q : Pq} (h : gath1 l q = some l') : ((∃ s ∈ l, s.fin = true) → ∃ s ∈ l', s.fin = true) ∧ (q.en = true → ∃ s ∈ l', s.fin = true) := by
  obtain ⟨k, n, d, b, e⟩ := q
  cases b with
  | true =>
    rw [gath1_new] at h
    simp only [Option.some.injEq] at h
    subst h
    refine ⟨?_, fun he => ⟨_, List.mem_append_right _ (List.mem_singleton.2 rfl), he⟩⟩
    rintro ⟨s, hs, hf⟩
    exact ⟨s, List.mem_append_left _ hs, hf⟩
  | false =>
    unfold gath1 at h
    simp only [Bool.false_eq_true, if_false] at h
    cases hl : l.getLast? with
    | none => rw [hl] at h; cases h
    | some x =>
      rw [hl] at h
      simp only at h
      split at h
      · cases h
      · rename_i hn
        simp only [not_or] at hn
        simp only [Option.some.injEq] at h
        subst h
        refine ⟨?_, fun he => ⟨_, List.mem_append_right _ (List.mem_singleton.2 rfl), he⟩⟩
        rintro ⟨s, hs, hf⟩
        obtain ⟨l0, rfl⟩ : ∃ l0, l = l0 ++ [x] := by
          rw [List.getLast?_eq_some_iff] at hl
          exact hl
        rcases List.mem_append.1 hs with hs | hs
        · exact ⟨s, List.mem_append_left _ (by rw [List.dropLast_concat]; exact hs), hf⟩
        · obtain rfl := List.mem_singleton.1 hs
          exact absurd hf hn.1
theorem gath_keeps : ∀ (Q : List Pq) {l l' : List Sn}, gath l Q = some l' → ((∃ s ∈ l, s.fin = true) ∨ ∃ q ∈ Q, q.en = true) → ∃ s ∈ l', s.fin = true
  | [], l, l', h, hx => by
    simp only [gath, Option.some.injEq] at h
    subst h
    rcases hx with hx | ⟨q, hq, _⟩
    · exact hx
    · cases hq
  | q :: r, l, l', h, hx => by
    simp only [gath] at h
    cases hg : gath1 l q with
    | none => rw [hg] at h; cases h
    | some m =>
      rw [hg] at h
      obtain ⟨h1, h2⟩ := gath1_keeps hg
      refine gath_keeps r h ?_
      rcases hx with hx | ⟨q', hq', he⟩
      · exact .inl (h1 hx)
      · rcases List.mem_cons.1 hq' with rfl | hq'
        · exact .inl (h2 he)
        · exact .inr ⟨q', hq', he⟩
/-- What the law says of the bytes that were packed, and of those of which some are turned. -/
theorem turned_say (k z body' sum' : List Int) (hk : isK k = true) (hkb : Bytes k) (hz : Bytes z) (hn : z.length ≤ 2000) (hcase : (∃ t f, body' = turnB (k ++ z) t f ∧ sum' = (octs ((crcM (BitVec.ofNat 32 0) (k ++ z)).toNat : Int) 4).reverse) ∨ (body' = k ++ z ∧ sum'.length = 4 ∧ Bytes sum')) :
    (first8 ++ ((octs z.length 4).reverse ++ (body' ++ sum')) = first8 ++ chB k z → ofAll (first8 ++ ((octs z.length 4).reverse ++ (body' ++ sum'))) = ([⟨k, z.length, z, true⟩], 0)) ∧
    (first8 ++ ((octs z.length 4).reverse ++ (body' ++ sum')) ≠ first8 ++ chB k z → ∃ W er, ofAll (first8 ++ ((octs z.length 4).reverse ++ (body' ++ sum'))) = (W, er) ∧ (er = 3 ∨ er = 4) ∧ ∀ s ∈ W, s.fin = false) := by
  have h4 : k.length = 4 := by simp only [isK, Bool.and_eq_true, decide_eq_true_eq] at hk; exact hk.1
  have hc := (crcM (BitVec.ofNat 32 0) (k ++ z)).isLt
  have hB : (octs (z.length : Int) 4).reverse.length = 4 := by rw [List.length_reverse, octs_len]
  have hb : bigN (octs (z.length : Int) 4).reverse = (z.length : Int) := big_octs _ (by omega) (by omega)
  have hE : chB k z = (octs z.length 4).reverse ++ ((k ++ z) ++ (octs ((crcM (BitVec.ofNat 32 0) (k ++ z)).toNat : Int) 4).reverse) := by unfold chB; simp
  have hS : bigN (octs ((crcM (BitVec.ofNat 32 0) (k ++ z)).toNat : Int) 4).reverse = ((crcM (BitVec.ofNat 32 0) (k ++ z)).toNat : Int) := big_octs _ (by omega) (by omega)
  refine ⟨fun e => ?_, fun hne => ?_⟩
  · rw [e, hE]
    have := parts_good hB hb (by omega) (show (k ++ z).length = 4 + z.length by rw [List.length_append]; omega) (show (octs ((crcM (BitVec.ofNat 32 0) (k ++ z)).toNat : Int) 4).reverse.length = 4 by rw [List.length_reverse, octs_len]) (by rw [List.take_left' h4]; exact hk) hS
    rw [List.take_left' h4, List.drop_left' h4] at this
    exact this
  · rcases hcase with ⟨t, f, rfl, rfl⟩ | ⟨rfl, hl, hby⟩
    · refine parts_bad hB hb (by omega) (by rw [turnB_len, List.length_append]; omega) (by rw [List.length_reverse, octs_len]) ?_
      rw [hS]
      intro h
      have h' : crcM (BitVec.ofNat 32 0) (k ++ z) = crcM (BitVec.ofNat 32 0) (turnB (k ++ z) t f) := BitVec.eq_of_toNat_eq (by omega)
      by_cases hq : k ++ z = turnB (k ++ z) t f
      · rw [← hq, hE] at hne
        exact hne rfl
      · exact turned_ne (k ++ z) (hkb.app hz) t f hq h'
    · refine parts_bad hB hb (by omega) (by rw [List.length_append]; omega) hl ?_
      intro h
      rw [← hS] at h
      have := big_inj hby (bytes_rev (octs_bytes _ _)) (by rw [hl, List.length_reverse, octs_len]) h
      rw [this, hE] at hne
      exact hne rfl
/-- Pieces in memory of which none is ended. -/
def NoEnd (w : World) (al : Option Addr) (n : Nat) : Prop := ∀ i, i < n → ∃ b v0 v1 v2 v3, al = some ⟨b, 0, none⟩ ∧ w.cell? ⟨b, i * 5, none⟩ = some (.string v0) ∧ w.cell? ⟨b, i * 5 + 1, none⟩ = some (.int .i64 v1) ∧ w.cell? ⟨b, i * 5 + 2, none⟩ = some v2 ∧ (∃ a n c, v2 = .slice a n c) ∧ w.cell? ⟨b, i * 5 + 3, none⟩ = some (.bool v3) ∧ w.cell? ⟨b, i * 5 + 4, none⟩ = some (.bool false)
section
variable {w : World} {p : Nat} {T' : List Int} {av : Option Addr} {c : Nat}
theorem push_good (n : Nat) (hn : T'.length = n) (hT : Bytes T') (h1 : n ≤ 1000000) (hmc : n ≤ c) (hcm : c ≤ 9223372036854775807) (hc0 : av = none → c = 0) (hrow : Row w av T') (hne : ∀ x, av = some x → T' ≠ [] → x.block ≠ p) (h : CRd w p [] [] 0 []) {W : List Sn} (hsay : ofAll T' = (W, 0)) :
    Calls Try.prog 10 #[.pointer (some ⟨p, 0, none⟩), .slice av n c] w fun e w' => ∃ al m cl, e = .returned (.tuple #[.slice al m cl, .int .i64 0]) ∧ (∃ L, CRd w' p T' L 1 []) ∧ Fr w w' p none := by
  refine (push_any T' hT av n c hn (by omega) hmc hcm hc0 hrow hne h).mono ?_
  rintro e w' ⟨vt, T, er, rfl, hpr, htok, hfr, htl, hen, hcase⟩
  obtain ⟨al, cl, rfl, _⟩ := hpr.shape
  rcases hcase with ⟨rfl, L, now, cur, hcr, hg⟩ | ⟨her, _, W', hW, _⟩
  · have hs := hcr.2.1.say hcr.1
    rw [List.nil_append, hsay] at hs
    simp only [Prod.mk.injEq] at hs
    by_cases hc : now = 1 ∧ cur = []
    · obtain ⟨rfl, rfl⟩ := hc
      exact ⟨al, _, cl, rfl, ⟨L, by simpa using hcr⟩, hfr⟩
    · rw [if_neg hc] at hs
      cases hs.2
  · rw [List.nil_append, hsay] at hW
    simp only [Prod.mk.injEq] at hW
    omega
theorem push_wrong (n : Nat) (hn : T'.length = n) (hT : Bytes T') (h1 : n ≤ 1000000) (hmc : n ≤ c) (hcm : c ≤ 9223372036854775807) (hc0 : av = none → c = 0) (hrow : Row w av T') (hne : ∀ x, av = some x → T' ≠ [] → x.block ≠ p) (h : CRd w p [] [] 0 []) {W : List Sn} {er : Int} (hsay : ofAll T' = (W, er)) (her : er = 3 ∨ er = 4) (hW : ∀ s ∈ W, s.fin = false) :
    Calls Try.prog 10 #[.pointer (some ⟨p, 0, none⟩), .slice av n c] w fun e w' => ∃ al m cl, e = .returned (.tuple #[.slice al m cl, .int .i64 er]) ∧ m ≤ cl ∧ cl ≤ maxLen ∧ NoEnd w' al m ∧ CBad w' p er ∧ Fr w w' p none := by
  refine (push_any T' hT av n c hn (by omega) hmc hcm hc0 hrow hne h).mono ?_
  rintro e w' ⟨vt, T, er', rfl, hpr, htok, hfr, htl, hen, hcase⟩
  obtain ⟨al, cl, rfl, hl, hm, _⟩ := hpr.shape
  rcases hcase with ⟨rfl, L, now, cur, hcr, hg⟩ | ⟨her', hbad, W', hW', hg⟩
  · have hs := hcr.2.1.say hcr.1
    rw [List.nil_append, hsay] at hs
    simp only [Prod.mk.injEq] at hs
    by_cases hc : now = 1 ∧ cur = []
    · rw [if_pos hc] at hs; omega
    · rw [if_neg hc] at hs; omega
  · rw [List.nil_append, hsay] at hW'
    simp only [Prod.mk.injEq] at hW'
    obtain ⟨rfl, rfl⟩ := hW'
    have hno : ∀ x ∈ T, x.q.en = false := by
      intro x hx
      cases he : x.q.en with
      | false => rfl
      | true =>
        obtain ⟨s, hs, hf⟩ := gath_keeps (T.map Pm.q) hg (.inr ⟨x.q, List.mem_map.2 ⟨x, hx, rfl⟩, he⟩)
        rw [hW s hs] at hf
        cases hf
    refine ⟨al, T.length, cl, rfl, hl, hm, fun i hi => ?_, hbad, hfr⟩
    obtain ⟨x, hx⟩ : ∃ x, T[i]? = some x := ⟨_, List.getElem?_eq_getElem hi⟩
    obtain ⟨b, e, hb, hcell⟩ := hpr.cell i x hx
    have hxm : x ∈ T := List.mem_of_getElem? hx
    refine ⟨b, _, _, _, _, e, hcell 0 (by omega), hcell 1 (by omega), hcell 2 (by omega), ⟨_, _, _, rfl⟩, hcell 3 (by omega), ?_⟩
    rw [hcell 4 (by omega)]
    show some (Value.bool x.q.en) = _
    rw [hno x hxm]
end
end Go.Proofs.Ytoofpkcgiodfcaa
