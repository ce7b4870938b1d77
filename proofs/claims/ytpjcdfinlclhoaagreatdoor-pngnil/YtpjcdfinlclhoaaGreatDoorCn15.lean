/- A chunk reader's calls. -/
import Derived.Test.YtpjcdfinlclhoaaGreatDoorCn14
namespace Go.Proofs.YtpjcdfinlclhoaaGreatDoor
open Go.RowKit
/-- A reader that has read the bytes pre. -/
def CRd (w : World) (p : Nat) (pre : List Int) (L : List Sn) (now : Nat) (cur : List Int) : Prop := Ok now cur ∧ Pre pre L now cur ∧ CR w p now cur false [] (.slice none 0 0) none
/-- A reader that has failed. -/
def CBad (w : World) (p : Nat) (er : Int) : Prop := ∃ X, CC w p 0 er 0 X (strOfNums []) 0 (.slice none 0 0) false false 0
theorem CRd.lt {w : World} {p : Nat} {pre : List Int} {L : List Sn} {now : Nat} {cur : List Int} (h : CRd w p pre L now cur) : p < w.heap.size := h.2.2.lt
theorem CRd.same {w w' : World} {p : Nat} {pre : List Int} {L : List Sn} {now : Nat} {cur : List Int} (h : CRd w p pre L now cur) (hs : w'.heap[p]? = w.heap[p]?) : CRd w' p pre L now cur := ⟨h.1, h.2.1, h.2.2.same hs (by intro k hk; cases hk)⟩
theorem CBad.same {w w' : World} {p : Nat} {er : Int} (h : CBad w p er) (hs : w'.heap[p]? = w.heap[p]?) : CBad w' p er := by obtain ⟨X, h⟩ := h; exact ⟨X, h.same hs⟩
theorem CBad.lt {w : World} {p : Nat} {er : Int} (h : CBad w p er) : p < w.heap.size := by obtain ⟨X, h⟩ := h; exact h.lt
set_option maxHeartbeats 800000 in
theorem cnew_any (w : World) : Calls Tryz.prog 12 #[] w fun e w' => e = .returned (.pointer (some ⟨w.heap.size, 0, none⟩)) ∧ CRd w' w.heap.size [] [] 0 [] ∧ Below w.heap.size w w' := by
  go_enter Tryz.func12, Tryz.ntmps12
  go_wp2
  go_ret
  refine ⟨rfl, ⟨⟨Bytes.nil, .inl ⟨rfl, by simp, rfl⟩⟩, ⟨fun _ => ⟨rfl, rfl⟩, fun h => absurd rfl h⟩, [0, 0, 0, 0], 0, rfl, bytes_of_all (by decide), heap_alloc_new _ _, (by intro h; omega), (by intro h; cases h), (by intro h; cases h), Sl.nil _ _, fun _ => ⟨rfl, rfl, rfl⟩⟩, (Below.refl _ _).alloc (Nat.le_refl _) _⟩
section
variable {w : World} {p : Nat} {pre : List Int} {L : List Sn} {now : Nat} {cur : List Int}
set_option maxHeartbeats 800000 in
theorem between_nil (w : World) : Calls Tryz.prog 22 #[.pointer none] w fun e w' => e = .returned (.bool false) ∧ w' = w := by
  go_enter Tryz.func22, Tryz.ntmps22
  go_wp2
  go_ret
  exact ⟨rfl, rfl⟩
set_option maxHeartbeats 800000 in
theorem between_bad {er : Int} (h : CBad w p er) (he : er ≠ 0) : Calls Tryz.prog 22 #[.pointer (some ⟨p, 0, none⟩)] w fun e w' => e = .returned (.bool false) ∧ w' = w := by
  obtain ⟨X, h⟩ := h
  obtain ⟨k0, k1, k2, k7, k8, k9, k10, k11, k12, fz⟩ := h.cells
  have he' : ¬ er = 0 := he
  clear h
  go_enter Tryz.func22, Tryz.ntmps22
  go_wp2
  go_ret
  exact ⟨rfl, rfl⟩
set_option maxHeartbeats 800000 in
theorem between_any (h : CRd w p pre L now cur) : Calls Tryz.prog 22 #[.pointer (some ⟨p, 0, none⟩)] w fun e w' => e = .returned (.bool (decide (now = 1 ∧ cur = []))) ∧ w' = w := by
  obtain ⟨hok, _, X, sum, h1, h2, h3, h4, h5, h6, h7, h8⟩ := h
  obtain ⟨k0, k1, k2, k7, k8, k9, k10, k11, k12, fz⟩ := h3.cells
  clear h1 h2 h3 h4 h5 h6 h7 h8 hok
  by_cases hn : now = 1
  · subst hn
    have hse : seV 1 cur = cur.length := by simp [seV]
    rw [hse] at k2
    by_cases hc : cur = []
    · subst hc
      have hd : decide ((1 : Nat) = 1 ∧ ([] : List Int) = []) = true := by simp
      rw [hd]
      clear hd hse
      go_enter Tryz.func22, Tryz.ntmps22
      go_wp2
      go_ret
      exact ⟨rfl, rfl⟩
    · have hd : decide ((1 : Nat) = 1 ∧ cur = []) = false := by simp [hc]
      have hl : ¬ (cur.length : Int) = 0 := by have := List.length_pos_iff.2 hc; omega
      rw [hd]
      clear hd hse hc
      generalize cur.length = n at *
      have HN : Hid (((n : Int) == 0) = false) := by show _ = _; simpa using hl
      go_enter Tryz.func22, Tryz.ntmps22
      go_wp2
      go_ret
      exact ⟨ret_bool HN.out, rfl⟩
  · have hd : decide (now = 1 ∧ cur = []) = false := by simp [hn]
    have hn1 : ¬ (now : Int) = 1 := by omega
    rw [hd]
    clear hd
    go_enter Tryz.func22, Tryz.ntmps22
    go_wp2
    go_ret
    exact ⟨rfl, rfl⟩
set_option maxHeartbeats 800000 in
theorem push_nil (v : Value) (w : World) : Calls Tryz.prog 17 #[.pointer none, v] w fun e w' => e = .returned (.tuple #[.slice none 0 0, .int .i64 1]) ∧ w' = w := by
  go_enter Tryz.func17, Tryz.ntmps17
  go_wp2
  go_ret2
  exact ⟨rfl, rfl⟩
set_option maxHeartbeats 800000 in
theorem push_bad {er : Int} (v : Value) (h : CBad w p er) (he : er ≠ 0) : Calls Tryz.prog 17 #[.pointer (some ⟨p, 0, none⟩), v] w fun e w' => e = .returned (.tuple #[.slice none 0 0, .int .i64 er]) ∧ w' = w.drew := by
  obtain ⟨X, h⟩ := h
  obtain ⟨k0, k1, k2, k7, k8, k9, k10, k11, k12, fz⟩ := h.cells
  have he' : ¬ er = 0 := he
  clear h
  go_enter Tryz.func17, Tryz.ntmps17
  go_wp2
  go_region
  go_wp2
  go_ret2
  exact ⟨rfl, rfl⟩
def PuPost (w : World) (p : Nat) (pre : List Int) (G0 : List Sn) (bs : List Int) (e : Ending) (w' : World) : Prop :=
  ∃ vt T er, e = .returned (.tuple #[vt, .int .i64 er]) ∧ PmRow w' w.heap.size vt T ∧ PmOk w.heap.size w' none T ∧ Fr w w' p none ∧ T.length ≤ bs.length + 1 ∧ (∀ x ∈ T.dropLast, x.q.en = true) ∧
   ((er = 0 ∧ ∃ L now cur, CRd w' p (pre ++ bs) L now cur ∧ gath G0 (T.map Pm.q) = some (L ++ here now cur)) ∨
    ((er = 3 ∨ er = 4 ∨ er = 9) ∧ CBad w' p er ∧ ∃ W, ofAll (pre ++ bs) = (W, er) ∧ gath G0 (T.map Pm.q) = some W))
def wiped (w : World) (p : Nat) (x : Int) : World := ((((((((((((w.setCell ⟨p, 0, none⟩ (.int .i64 0)).setCell ⟨p, 1, none⟩ (.int .i64 x)).setCell ⟨p, 2, none⟩ (.int .i64 0)).setCell ⟨p, 3, none⟩ (.int .u8 0)).setCell ⟨p, 4, none⟩ (.int .u8 0)).setCell ⟨p, 5, none⟩ (.int .u8 0)).setCell ⟨p, 6, none⟩ (.int .u8 0)).setCell ⟨p, 7, none⟩ (.string ⟨#[]⟩)).setCell ⟨p, 8, none⟩ (.int .i64 0)).setCell ⟨p, 9, none⟩ (.slice none 0 0)).setCell ⟨p, 10, none⟩ (.bool false)).setCell ⟨p, 11, none⟩ (.bool false)).setCell ⟨p, 12, none⟩ (.int .u32 0)
theorem CC.wiped {w : World} {p : Nat} {now er seen sz sum : Int} {X : List Int} {kd : ByteArray} {vd : Value} {bg en : Bool} (h : CC w p now er seen X kd sz vd bg en sum) (x : Int) : CBad (wiped w p x) p x ∧ Fr w (wiped w p x) p none := by
  unfold CC at h
  have e0 : (w.setCell ⟨p, 0, none⟩ (.int .i64 0)).heap[p]? = some (.cells #[.int .i64 0, .int .i64 er, .int .i64 seen, .int .u8 (X[0]?.getD 0), .int .u8 (X[1]?.getD 0), .int .u8 (X[2]?.getD 0), .int .u8 (X[3]?.getD 0), .string kd, .int .i64 sz, vd, .bool bg, .bool en, .int .u32 sum] 71 (0, 0)) := by rw [heap_setCell_same _ p 0 _ _ _ h]; rfl
  have e1 : ((w.setCell ⟨p, 0, none⟩ (.int .i64 0)).setCell ⟨p, 1, none⟩ (.int .i64 x)).heap[p]? = some (.cells #[.int .i64 0, .int .i64 x, .int .i64 seen, .int .u8 (X[0]?.getD 0), .int .u8 (X[1]?.getD 0), .int .u8 (X[2]?.getD 0), .int .u8 (X[3]?.getD 0), .string kd, .int .i64 sz, vd, .bool bg, .bool en, .int .u32 sum] 71 (0, 0)) := by rw [heap_setCell_same _ p 1 _ _ _ e0]; rfl
  have e2 : (((w.setCell ⟨p, 0, none⟩ (.int .i64 0)).setCell ⟨p, 1, none⟩ (.int .i64 x)).setCell ⟨p, 2, none⟩ (.int .i64 0)).heap[p]? = some (.cells #[.int .i64 0, .int .i64 x, .int .i64 0, .int .u8 (X[0]?.getD 0), .int .u8 (X[1]?.getD 0), .int .u8 (X[2]?.getD 0), .int .u8 (X[3]?.getD 0), .string kd, .int .i64 sz, vd, .bool bg, .bool en, .int .u32 sum] 71 (0, 0)) := by rw [heap_setCell_same _ p 2 _ _ _ e1]; rfl
  have e3 : ((((w.setCell ⟨p, 0, none⟩ (.int .i64 0)).setCell ⟨p, 1, none⟩ (.int .i64 x)).setCell ⟨p, 2, none⟩ (.int .i64 0)).setCell ⟨p, 3, none⟩ (.int .u8 0)).heap[p]? = some (.cells #[.int .i64 0, .int .i64 x, .int .i64 0, .int .u8 0, .int .u8 (X[1]?.getD 0), .int .u8 (X[2]?.getD 0), .int .u8 (X[3]?.getD 0), .string kd, .int .i64 sz, vd, .bool bg, .bool en, .int .u32 sum] 71 (0, 0)) := by rw [heap_setCell_same _ p 3 _ _ _ e2]; rfl
  have e4 : (((((w.setCell ⟨p, 0, none⟩ (.int .i64 0)).setCell ⟨p, 1, none⟩ (.int .i64 x)).setCell ⟨p, 2, none⟩ (.int .i64 0)).setCell ⟨p, 3, none⟩ (.int .u8 0)).setCell ⟨p, 4, none⟩ (.int .u8 0)).heap[p]? = some (.cells #[.int .i64 0, .int .i64 x, .int .i64 0, .int .u8 0, .int .u8 0, .int .u8 (X[2]?.getD 0), .int .u8 (X[3]?.getD 0), .string kd, .int .i64 sz, vd, .bool bg, .bool en, .int .u32 sum] 71 (0, 0)) := by rw [heap_setCell_same _ p 4 _ _ _ e3]; rfl
  have e5 : ((((((w.setCell ⟨p, 0, none⟩ (.int .i64 0)).setCell ⟨p, 1, none⟩ (.int .i64 x)).setCell ⟨p, 2, none⟩ (.int .i64 0)).setCell ⟨p, 3, none⟩ (.int .u8 0)).setCell ⟨p, 4, none⟩ (.int .u8 0)).setCell ⟨p, 5, none⟩ (.int .u8 0)).heap[p]? = some (.cells #[.int .i64 0, .int .i64 x, .int .i64 0, .int .u8 0, .int .u8 0, .int .u8 0, .int .u8 (X[3]?.getD 0), .string kd, .int .i64 sz, vd, .bool bg, .bool en, .int .u32 sum] 71 (0, 0)) := by rw [heap_setCell_same _ p 5 _ _ _ e4]; rfl
  have e6 : (((((((w.setCell ⟨p, 0, none⟩ (.int .i64 0)).setCell ⟨p, 1, none⟩ (.int .i64 x)).setCell ⟨p, 2, none⟩ (.int .i64 0)).setCell ⟨p, 3, none⟩ (.int .u8 0)).setCell ⟨p, 4, none⟩ (.int .u8 0)).setCell ⟨p, 5, none⟩ (.int .u8 0)).setCell ⟨p, 6, none⟩ (.int .u8 0)).heap[p]? = some (.cells #[.int .i64 0, .int .i64 x, .int .i64 0, .int .u8 0, .int .u8 0, .int .u8 0, .int .u8 0, .string kd, .int .i64 sz, vd, .bool bg, .bool en, .int .u32 sum] 71 (0, 0)) := by rw [heap_setCell_same _ p 6 _ _ _ e5]; rfl
  have e7 : ((((((((w.setCell ⟨p, 0, none⟩ (.int .i64 0)).setCell ⟨p, 1, none⟩ (.int .i64 x)).setCell ⟨p, 2, none⟩ (.int .i64 0)).setCell ⟨p, 3, none⟩ (.int .u8 0)).setCell ⟨p, 4, none⟩ (.int .u8 0)).setCell ⟨p, 5, none⟩ (.int .u8 0)).setCell ⟨p, 6, none⟩ (.int .u8 0)).setCell ⟨p, 7, none⟩ (.string ⟨#[]⟩)).heap[p]? = some (.cells #[.int .i64 0, .int .i64 x, .int .i64 0, .int .u8 0, .int .u8 0, .int .u8 0, .int .u8 0, .string ⟨#[]⟩, .int .i64 sz, vd, .bool bg, .bool en, .int .u32 sum] 71 (0, 0)) := by rw [heap_setCell_same _ p 7 _ _ _ e6]; rfl
  have e8 : (((((((((w.setCell ⟨p, 0, none⟩ (.int .i64 0)).setCell ⟨p, 1, none⟩ (.int .i64 x)).setCell ⟨p, 2, none⟩ (.int .i64 0)).setCell ⟨p, 3, none⟩ (.int .u8 0)).setCell ⟨p, 4, none⟩ (.int .u8 0)).setCell ⟨p, 5, none⟩ (.int .u8 0)).setCell ⟨p, 6, none⟩ (.int .u8 0)).setCell ⟨p, 7, none⟩ (.string ⟨#[]⟩)).setCell ⟨p, 8, none⟩ (.int .i64 0)).heap[p]? = some (.cells #[.int .i64 0, .int .i64 x, .int .i64 0, .int .u8 0, .int .u8 0, .int .u8 0, .int .u8 0, .string ⟨#[]⟩, .int .i64 0, vd, .bool bg, .bool en, .int .u32 sum] 71 (0, 0)) := by rw [heap_setCell_same _ p 8 _ _ _ e7]; rfl
  have e9 : ((((((((((w.setCell ⟨p, 0, none⟩ (.int .i64 0)).setCell ⟨p, 1, none⟩ (.int .i64 x)).setCell ⟨p, 2, none⟩ (.int .i64 0)).setCell ⟨p, 3, none⟩ (.int .u8 0)).setCell ⟨p, 4, none⟩ (.int .u8 0)).setCell ⟨p, 5, none⟩ (.int .u8 0)).setCell ⟨p, 6, none⟩ (.int .u8 0)).setCell ⟨p, 7, none⟩ (.string ⟨#[]⟩)).setCell ⟨p, 8, none⟩ (.int .i64 0)).setCell ⟨p, 9, none⟩ (.slice none 0 0)).heap[p]? = some (.cells #[.int .i64 0, .int .i64 x, .int .i64 0, .int .u8 0, .int .u8 0, .int .u8 0, .int .u8 0, .string ⟨#[]⟩, .int .i64 0, .slice none 0 0, .bool bg, .bool en, .int .u32 sum] 71 (0, 0)) := by rw [heap_setCell_same _ p 9 _ _ _ e8]; rfl
  have e10 : (((((((((((w.setCell ⟨p, 0, none⟩ (.int .i64 0)).setCell ⟨p, 1, none⟩ (.int .i64 x)).setCell ⟨p, 2, none⟩ (.int .i64 0)).setCell ⟨p, 3, none⟩ (.int .u8 0)).setCell ⟨p, 4, none⟩ (.int .u8 0)).setCell ⟨p, 5, none⟩ (.int .u8 0)).setCell ⟨p, 6, none⟩ (.int .u8 0)).setCell ⟨p, 7, none⟩ (.string ⟨#[]⟩)).setCell ⟨p, 8, none⟩ (.int .i64 0)).setCell ⟨p, 9, none⟩ (.slice none 0 0)).setCell ⟨p, 10, none⟩ (.bool false)).heap[p]? = some (.cells #[.int .i64 0, .int .i64 x, .int .i64 0, .int .u8 0, .int .u8 0, .int .u8 0, .int .u8 0, .string ⟨#[]⟩, .int .i64 0, .slice none 0 0, .bool false, .bool en, .int .u32 sum] 71 (0, 0)) := by rw [heap_setCell_same _ p 10 _ _ _ e9]; rfl
  have e11 : ((((((((((((w.setCell ⟨p, 0, none⟩ (.int .i64 0)).setCell ⟨p, 1, none⟩ (.int .i64 x)).setCell ⟨p, 2, none⟩ (.int .i64 0)).setCell ⟨p, 3, none⟩ (.int .u8 0)).setCell ⟨p, 4, none⟩ (.int .u8 0)).setCell ⟨p, 5, none⟩ (.int .u8 0)).setCell ⟨p, 6, none⟩ (.int .u8 0)).setCell ⟨p, 7, none⟩ (.string ⟨#[]⟩)).setCell ⟨p, 8, none⟩ (.int .i64 0)).setCell ⟨p, 9, none⟩ (.slice none 0 0)).setCell ⟨p, 10, none⟩ (.bool false)).setCell ⟨p, 11, none⟩ (.bool false)).heap[p]? = some (.cells #[.int .i64 0, .int .i64 x, .int .i64 0, .int .u8 0, .int .u8 0, .int .u8 0, .int .u8 0, .string ⟨#[]⟩, .int .i64 0, .slice none 0 0, .bool false, .bool false, .int .u32 sum] 71 (0, 0)) := by rw [heap_setCell_same _ p 11 _ _ _ e10]; rfl
  have e12 : (((((((((((((w.setCell ⟨p, 0, none⟩ (.int .i64 0)).setCell ⟨p, 1, none⟩ (.int .i64 x)).setCell ⟨p, 2, none⟩ (.int .i64 0)).setCell ⟨p, 3, none⟩ (.int .u8 0)).setCell ⟨p, 4, none⟩ (.int .u8 0)).setCell ⟨p, 5, none⟩ (.int .u8 0)).setCell ⟨p, 6, none⟩ (.int .u8 0)).setCell ⟨p, 7, none⟩ (.string ⟨#[]⟩)).setCell ⟨p, 8, none⟩ (.int .i64 0)).setCell ⟨p, 9, none⟩ (.slice none 0 0)).setCell ⟨p, 10, none⟩ (.bool false)).setCell ⟨p, 11, none⟩ (.bool false)).setCell ⟨p, 12, none⟩ (.int .u32 0)).heap[p]? = some (.cells #[.int .i64 0, .int .i64 x, .int .i64 0, .int .u8 0, .int .u8 0, .int .u8 0, .int .u8 0, .string ⟨#[]⟩, .int .i64 0, .slice none 0 0, .bool false, .bool false, .int .u32 0] 71 (0, 0)) := by rw [heap_setCell_same _ p 12 _ _ _ e11]; rfl
  exact ⟨⟨[0, 0, 0, 0], e12⟩, (((((((((((((Fr.refl _ _ _).snoc _ _).snoc _ _).snoc _ _).snoc _ _).snoc _ _).snoc _ _).snoc _ _).snoc _ _).snoc _ _).snoc _ _).snoc _ _).snoc _ _).snoc _ _⟩
set_option maxHeartbeats 3200000 in
set_option maxRecDepth 20000 in
theorem push_any (bs : List Int) (hbb : Bytes bs) (av : Option Addr) (m c : Nat) (hm : bs.length = m) (hb1 : bs.length ≤ 1000000) (hmc : m ≤ c) (hcm : c ≤ 9223372036854775807) (hc0 : av = none → c = 0) (hrow : Row w av bs) (hne : ∀ x, av = some x → bs ≠ [] → x.block ≠ p) (h : CRd w p pre L now cur) :
    Calls Tryz.prog 17 #[.pointer (some ⟨p, 0, none⟩), .slice av m c] w fun e w' => PuPost w p pre (L ++ here now cur) bs e w' := by
  obtain ⟨hok, hpre, hcr⟩ := id h
  have hlv : Lv w p pre (L ++ here now cur) bs 0 [] L now cur false [] (cD cur) (.slice none 0 0) none av c (.slice none 0 0) w := by
    refine ⟨Nat.zero_le _, hok, by simpa using hpre, hcr, fun _ => ⟨by simp, by intro hh; cases hh⟩, ?_, ⟨by rw [List.drop_zero]; omega, hcm, hc0, by simpa using hrow, fun x hx hz => ⟨hne x hx (by simpa using hz), hrow.lt x hx (by simpa using hz)⟩⟩, Fr.refl _ _ _, (by intro k hk; cases hk), World.ownsRow_nil _ _ _ _, (by intro x hx; cases hx), Nat.le_refl _, fun _ => rfl, hcr.lt, hbb, by simp, (by intro x hx; cases hx)⟩
    simp only [List.map_nil, gath]
    rw [gx_quiet now cur (cD cur) (fun _ => ⟨by simp, by intro hh; cases hh⟩)]
  have C := read_any bs w av m c hm hb1 hlv
  obtain ⟨X, sum, _, _, h3, _⟩ := hcr
  obtain ⟨k0, k1, k2, k7, k8, k9, k10, k11, k12, fz⟩ := h3.cells
  have HPL : Hid (p < w.heap.size) := h.lt
  clear hok hpre hlv h3 h hrow hne hbb
  go_enter Tryz.func17, Tryz.ntmps17
  go_wp2_with fail
  refine C.mono ?_
  clear C
  rintro e wx ⟨vt, T, er, rfl, hrow, htok, hfr, htl, hen, ⟨no, se, X', kd, sz, vd, bg, sum', hcc⟩, hcase⟩
  obtain ⟨y0, y1, y2, y7, y8, y9, y10, y11, y12, yf⟩ := hcc.cells
  obtain ⟨y3, y4, y5, y6⟩ := hcc.cellsX
  rcases hcase with ⟨rfl, hres⟩ | ⟨her, hres⟩
  · have HPF : Hid (PuPost w p pre (L ++ here now cur) bs (.returned (.tuple #[vt, .int .i64 0])) wx) := by
      obtain ⟨L', now', cur', g1, g2, g3, g4⟩ := hres
      exact ⟨vt, T, 0, rfl, hrow, htok, hfr, htl, hen, .inl ⟨rfl, L', now', cur', ⟨g1, g2, g3⟩, g4⟩⟩
    clear hrow htok hfr htl hen hcc hres
    go_wp2
    go_ret2
    exact HPF.out
  · have her' : ¬ er = 0 := by rcases her with h | h | h <;> omega
    have HH : Hid (PmRow wx w.heap.size vt T ∧ PmOk w.heap.size wx none T ∧ Fr w wx p none ∧ T.length ≤ bs.length + 1 ∧ (∀ x ∈ T.dropLast, x.q.en = true) ∧ (er = 3 ∨ er = 4 ∨ er = 9) ∧ (∃ W, ofAll (pre ++ bs) = (W, er) ∧ gath (L ++ here now cur) (T.map Pm.q) = some W) ∧ CC wx p no 0 se X' kd sz vd bg false sum') := ⟨hrow, htok, hfr, htl, hen, her, hres, hcc⟩
    clear hrow htok hfr htl hen hcc hres her
    have HPF : Hid (PuPost w p pre (L ++ here now cur) bs (.returned (.tuple #[vt, .int .i64 er])) (wiped wx p er)) := by
      obtain ⟨g1, g2, g3, g4, g4', g5, g6, g7⟩ := HH.out
      obtain ⟨b1, b2⟩ := g7.wiped er
      have hpl : p < w.heap.size := HPL.out
      exact ⟨vt, T, er, rfl, g1.after b2 hpl (by intro k hk; cases hk), g2.after b2 hpl (.inl rfl), g3.trans b2 (.inl rfl), g4, g4', .inr ⟨g5, b1, g6⟩⟩
    go_wp2
    go_ret2
    exact HPF.out
end
end Go.Proofs.YtpjcdfinlclhoaaGreatDoor
