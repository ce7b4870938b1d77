/- What packed chunks say, whole and cut. -/
import Derived.Test.YtoofpkcgiodfcaaBp0
namespace Go.Proofs.Ytoofpkcgiodfcaa
open Go.RowKit
theorem ps_cut (b : List Int) (hn : cN b ≤ 1048576) (hk : isK (cK b) = true) (hl : 12 + cN b ≤ b.length) (hs : cS b = ((cW b).toNat : Int)) (y : List Int) :
    ps (b ++ y) = (⟨cK b, cN b, cD b, true⟩ :: (ps (b.drop (12 + cN b) ++ y)).1, (ps (b.drop (12 + cN b) ++ y)).2) := by
  obtain ⟨n, e0⟩ : ∃ n, cN b = n := ⟨_, rfl⟩
  rw [e0] at hl
  obtain ⟨c, r, rfl, hc⟩ : ∃ c r, b = c ++ r ∧ c.length = 12 + n := ⟨b.take (12 + n), b.drop (12 + n), (List.take_append_drop _ _).symm, by rw [List.length_take]; omega⟩
  have e1 : cN (c ++ r) = cN c := cN_append r (by omega)
  have e2 : cK (c ++ r) = cK c := cK_append r (by omega)
  have en : cN c = n := by rw [← e1]; exact e0
  have e3 : cD (c ++ r) = cD c := cD_append r (by omega)
  have e4 : cW (c ++ r) = cW c := cW_append r (by omega)
  have e5 : cS (c ++ r) = cS c := cS_append r (by omega)
  rw [e1] at hn
  rw [e2] at hk
  rw [e4, e5] at hs
  have hd : (c ++ r).drop (12 + cN c) = r := by rw [en, ← hc, List.drop_left]
  rw [List.append_assoc, ps_whole hn hk (by omega) hs (r ++ y), e1, e2, e3, hd]
theorem ps_stick : ∀ (m : Nat) (b y : List Int), b.length ≤ m → (ps b).2 ≠ 0 → (ps b).2 ≠ 2 → (ps (b ++ y)).2 = (ps b).2 := by
  intro m
  induction m with
  | zero =>
    intro b y hb h0 _
    have : b = [] := List.length_eq_zero_iff.1 (by omega)
    subst this
    rw [ps_nil] at h0
    exact absurd rfl h0
  | succ m ih =>
    intro b y hb h0 h2
    by_cases c0 : b = []
    · subst c0; rw [ps_nil] at h0; exact absurd rfl h0
    by_cases c4 : b.length < 4
    · rw [ps_few c0 c4] at h2; exact absurd rfl h2
    have e1 : cN (b ++ y) = cN b := cN_append y (by omega)
    by_cases cl : 1048576 < cN b
    · rw [ps_long (by omega) cl, ps_long (by rw [List.length_append]; omega) (by rw [e1]; exact cl)]
    by_cases c8 : b.length < 8
    · rw [ps_few8 (by omega) c8 (by omega)] at h2; exact absurd rfl h2
    have e2 : cK (b ++ y) = cK b := cK_append y (by omega)
    cases ck : isK (cK b) with
    | false => rw [ps_kind (by omega) (by omega) ck, ps_kind (by rw [List.length_append]; omega) (by rw [e1]; omega) (by rw [e2]; exact ck)]
    | true =>
      by_cases ch : b.length < 12 + cN b
      · rw [ps_part (by omega) (by omega) ck ch] at h2; exact absurd rfl h2
      have e4 : cW (b ++ y) = cW b := cW_append y (by omega)
      have e5 : cS (b ++ y) = cS b := cS_append y (by omega)
      by_cases cs : cS b = ((cW b).toNat : Int)
      · have p1 := ps_cut b (by omega) ck (by omega) cs []
        have p2 := ps_cut b (by omega) ck (by omega) cs y
        rw [List.append_nil, List.append_nil] at p1
        rw [p1] at h0 h2 ⊢
        rw [p2]
        exact ih _ _ (by rw [List.length_drop]; omega) h0 h2
      · rw [ps_sum (by omega) ck (by omega) cs, ps_sum (by rw [e1]; omega) (by rw [e2]; exact ck) (by rw [e1, List.length_append]; omega) (by rw [e4, e5]; exact cs)]
theorem ps_small : ∀ (m : Nat) (b : List Int), b.length ≤ m → (ps b).1.length ≤ b.length ∧ ∀ s ∈ (ps b).1, s.data.length ≤ b.length := by
  intro m
  induction m with
  | zero =>
    intro b hb
    have : b = [] := List.length_eq_zero_iff.1 (by omega)
    subst this
    rw [ps_nil]
    simp
  | succ m ih =>
    intro b hb
    have hd : (cD b).length ≤ b.length := by unfold cD; rw [List.length_take, List.length_drop]; omega
    by_cases c0 : b = []
    · subst c0; rw [ps_nil]; simp
    by_cases c4 : b.length < 4
    · rw [ps_few c0 c4]; simp
    by_cases cl : 1048576 < cN b
    · rw [ps_long (by omega) cl]; simp
    by_cases c8 : b.length < 8
    · rw [ps_few8 (by omega) c8 (by omega)]; simp
    cases ck : isK (cK b) with
    | false => rw [ps_kind (by omega) (by omega) ck]; simp
    | true =>
      by_cases ch : b.length < 12 + cN b
      · rw [ps_part (by omega) (by omega) ck ch]
        refine ⟨by simp; omega, fun s hs => ?_⟩
        obtain rfl := List.mem_singleton.1 hs
        exact hd
      by_cases cs : cS b = ((cW b).toNat : Int)
      · have p1 := ps_cut b (by omega) ck (by omega) cs []
        rw [List.append_nil, List.append_nil] at p1
        obtain ⟨i1, i2⟩ := ih (b.drop (12 + cN b)) (by rw [List.length_drop]; omega)
        rw [List.length_drop] at i1 i2
        rw [p1]
        refine ⟨by rw [List.length_cons]; omega, fun s hs => ?_⟩
        rcases List.mem_cons.1 hs with rfl | hs
        · exact hd
        · have := i2 s hs; omega
      · rw [ps_sum (by omega) ck (by omega) cs]
        refine ⟨by simp; omega, fun s hs => ?_⟩
        obtain rfl := List.mem_singleton.1 hs
        exact hd
theorem ofAll_small (b : List Int) : (ofAll b).1.length ≤ b.length ∧ ∀ s ∈ (ofAll b).1, s.data.length ≤ b.length := by
  unfold ofAll
  split
  · obtain ⟨h1, h2⟩ := ps_small _ (b.drop 8) (Nat.le_refl _)
    rw [List.length_drop] at h1 h2
    exact ⟨by omega, fun s hs => by have := h2 s hs; omega⟩
  · split <;> simp
/-- The chunks given. -/
def snL (F : Nat → Ck) : Nat → List Sn
  | 0 => []
  | k + 1 => snL F k ++ [⟨kb (F k).kind, (F k).z.length, (F k).z, true⟩]
theorem pack_say (F : Nat → Ck) : ∀ k, okK F k → (∀ i, i < k → (F i).z.length ≤ 5000) → ∃ C, packB F k = first8 ++ C ∧ ∀ x, ps (C ++ x) = (snL F k ++ (ps x).1, (ps x).2)
  | 0, _, _ => ⟨[], rfl, fun x => rfl⟩
  | n + 1, hok, hz => by
    obtain ⟨C, h1, h2⟩ := pack_say F n (fun i hi => hok i (by omega)) (fun i hi => hz i (by omega))
    have hk : isK (kb (F n).kind) = true := hok n (by omega)
    have hz5 := hz n (by omega)
    refine ⟨C ++ chB (kb (F n).kind) (F n).z, by rw [packB, h1, List.append_assoc], fun x => ?_⟩
    rw [List.append_assoc, h2, snL]
    generalize kb (F n).kind = k at *
    generalize (F n).z = z at *
    have h4 : k.length = 4 := by simp only [isK, Bool.and_eq_true, decide_eq_true_eq] at hk; exact hk.1
    have hc := (crcM (BitVec.ofNat 32 0) (k ++ z)).isLt
    have hB : (octs (z.length : Int) 4).reverse.length = 4 := by rw [List.length_reverse, octs_len]
    have hb : bigN (octs (z.length : Int) 4).reverse = (z.length : Int) := big_octs _ (by omega) (by omega)
    have hE : chB k z = (octs z.length 4).reverse ++ ((k ++ z) ++ (octs ((crcM (BitVec.ofNat 32 0) (k ++ z)).toNat : Int) 4).reverse) := by unfold chB; simp
    have hS : bigN (octs ((crcM (BitVec.ofNat 32 0) (k ++ z)).toNat : Int) 4).reverse = ((crcM (BitVec.ofNat 32 0) (k ++ z)).toNat : Int) := big_octs _ (by omega) (by omega)
    have hl : (k ++ z).length = 4 + z.length := by rw [List.length_append]; omega
    have hs : (octs ((crcM (BitVec.ofNat 32 0) (k ++ z)).toNat : Int) 4).reverse.length = 4 := by rw [List.length_reverse, octs_len]
    rw [hE]
    have h := ps_whole (c := (octs z.length 4).reverse ++ ((k ++ z) ++ (octs ((crcM (BitVec.ofNat 32 0) (k ++ z)).toNat : Int) 4).reverse)) (by rw [parts_cN hB hb]; omega) (by rw [parts_cK hB (by omega), List.take_left' h4]; exact hk) (by rw [parts_cN hB hb]; exact parts_len hB hl hs) (by rw [parts_cS hB hb hl hs, parts_cW hB hb hl]; exact hS) x
    rw [h, parts_cN hB hb, parts_cK hB (by omega), parts_cD hB hb hl, List.take_left' h4, List.drop_left' h4]
    simp
theorem pack_all (F : Nat → Ck) (k : Nat) (hok : okK F k) (hz : ∀ i, i < k → (F i).z.length ≤ 5000) : ofAll (packB F k) = (snL F k, 0) := by
  obtain ⟨C, h1, h2⟩ := pack_say F k hok hz
  have := h2 []
  rw [List.append_nil, ps_nil] at this
  rw [h1, ofAll_first, this, List.append_nil]
/-- No beginning of it is wrong. -/
theorem pack_part (F : Nat → Ck) (k : Nat) (hok : okK F k) (hz : ∀ i, i < k → (F i).z.length ≤ 5000) {a y : List Int} (he : a ++ y = packB F k) {W : List Sn} {er : Int} (hs : ofAll a = (W, er)) : er = 0 ∨ er = 2 := by
  obtain ⟨C, h1, h2⟩ := pack_say F k hok hz
  have hC := h2 []
  rw [List.append_nil, ps_nil] at hC
  rw [h1] at he
  by_cases h8 : 8 ≤ a.length
  · obtain ⟨c, rfl⟩ : ∃ c, a = first8 ++ c := by
      refine ⟨a.drop 8, ?_⟩
      have := congrArg (List.take 8) he
      rw [List.take_append_of_le_length h8, List.take_left' (show first8.length = 8 from rfl)] at this
      rw [← this, List.take_append_drop]
    rw [List.append_assoc] at he
    have he2 := List.append_cancel_left he
    rw [ofAll_first] at hs
    by_cases e0 : er = 0
    · exact .inl e0
    by_cases e2 : er = 2
    · exact .inr e2
    have := ps_stick _ c y (Nat.le_refl _) (by rw [hs]; exact e0) (by rw [hs]; exact e2)
    rw [he2, hC, hs] at this
    exact .inl this.symm
  · right
    have ha : a = first8.take a.length := by
      have := congrArg (List.take a.length) he
      rw [List.take_left' rfl, List.take_append_of_le_length (by show a.length ≤ 8; omega)] at this
      exact this
    unfold ofAll at hs
    rw [if_neg (by intro e; have := congrArg List.length e; rw [List.length_take] at this; simp [first8] at this; omega), if_pos ha] at hs
    simp only [Prod.mk.injEq] at hs
    exact hs.2.symm
theorem gath1_data {l l' : List Sn} {q : Pq} (h : gath1 l q = some l') : (∃ s ∈ l', q.data.length ≤ s.data.length) ∧ ∀ s ∈ l, ∃ s' ∈ l', s.data.length ≤ s'.data.length := by
  obtain ⟨l2, y, h1, _, _, _, _, rfl⟩ := gath1_cases h
  refine ⟨⟨_, List.mem_append_right _ (List.mem_singleton.2 rfl), by simp⟩, fun s hs => ?_⟩
  have : s ∈ l2 ++ [y] := by
    rw [← h1]
    split
    · exact List.mem_append_left _ hs
    · exact hs
  rcases List.mem_append.1 this with hs | hs
  · exact ⟨s, List.mem_append_left _ hs, Nat.le_refl _⟩
  · obtain rfl := List.mem_singleton.1 hs
    exact ⟨_, List.mem_append_right _ (List.mem_singleton.2 rfl), by simp⟩
theorem gath_data : ∀ (Q : List Pq) {l l' : List Sn}, gath l Q = some l' → (∀ q ∈ Q, ∃ s ∈ l', q.data.length ≤ s.data.length) ∧ ∀ s ∈ l, ∃ s' ∈ l', s.data.length ≤ s'.data.length
  | [], l, l', h => by
    simp only [gath, Option.some.injEq] at h
    subst h
    exact ⟨fun q hq => (by cases hq), fun s hs => ⟨s, hs, Nat.le_refl _⟩⟩
  | q :: r, l, l', h => by
    simp only [gath] at h
    cases hg : gath1 l q with
    | none => rw [hg] at h; cases h
    | some m =>
      rw [hg] at h
      obtain ⟨h1, h2⟩ := gath1_data hg
      obtain ⟨h3, h4⟩ := gath_data r h
      refine ⟨fun q' hq' => ?_, fun s hs => ?_⟩
      · rcases List.mem_cons.1 hq' with rfl | hq'
        · obtain ⟨s, hs, h5⟩ := h1
          obtain ⟨s', hs', h6⟩ := h4 s hs
          exact ⟨s', hs', by omega⟩
        · exact h3 q' hq'
      · obtain ⟨s1, hs1, h5⟩ := h2 s hs
        obtain ⟨s', hs', h6⟩ := h4 s1 hs1
        exact ⟨s', hs', by omega⟩
end Go.Proofs.Ytoofpkcgiodfcaa
