/- LZW: the table: empty, learn, follow. -/
import Derived.Test.YtcbmlioeeoghkaaLzC
namespace Go.Proofs.Ytcbmlioeeoghkaa
open Go.RowKit
/-- What a call on the table leaves: its texts, and the code ahead. -/
def TfP (w : World) (d B : Nat) (L lf er : Int) (dn : Bool) (rv iv : Value) (fv : Value) (fs' : List Tx) (ah' : Int) (w' : World) : Prop :=
  ∃ fv', Dc w' d L lf er dn rv iv L fv' ah' ∧ TbR w' B fv' fs' ∧ Fr w w' d fv.ownBlock ∧ (fv'.ownBlock = fv.ownBlock ∨ ∃ k, fv'.ownBlock = some k ∧ w.heap.size ≤ k)
theorem frL_set {w : World} {r : Nat} {g : Option Nat} (i : Nat) (v : Value) : Fr w (w.setCell ⟨r, i, none⟩ v) r g :=
  ⟨rfl, rfl, rfl, by simp [World.setCell], fun k _ hk _ => Below.heap_setCell _ _ _ _ hk⟩
theorem frL_grown {w w' : World} {r : Nat} {g : Option Nat} (h : w.grownBy w' g) : Fr w w' r g := ⟨h.os, h.tape, h.output, h.size, fun k hk _ hg => h.block k hk hg⟩
theorem frL_below {w w' : World} {r : Nat} {g : Option Nat} (h : Below w.heap.size w w') : Fr w w' r g := ⟨h.os, h.tape, h.output, h.size, fun k hk _ _ => h.block k hk⟩
theorem TbR.set {w : World} {B d : Nat} {fv : Value} {fs : List Tx} (h : TbR w B fv fs) (hd : fv.ownBlock ≠ some d) (i : Nat) (v : Value) : TbR (w.setCell ⟨d, i, none⟩ v) B fv fs :=
  h.same fun _ _ hk _ => Below.heap_setCell _ _ _ _ (fun e => hd (hk.trans (congrArg some e)))
theorem TbR.cut {w : World} {B : Nat} {a : Option Addr} {n cap : Nat} {fs : List Tx} (h : TbR w B (.slice a n cap) fs) : TbR w B (.slice a 0 cap) [] := by
  rcases h.2 with ⟨e, h0⟩ | ⟨g, cap', cur, e, hb, hh, h1, h2, h3, h4⟩
  · simp only [Value.slice.injEq] at e
    obtain ⟨rfl, -, rfl⟩ := e
    exact ⟨rfl, .inl ⟨rfl, rfl⟩⟩
  · simp only [Value.slice.injEq] at e
    obtain ⟨rfl, -, rfl⟩ := e
    exact ⟨rfl, .inr ⟨g, cap, cur, rfl, hb, hh, Nat.zero_le _, h2, h3, by simp [encT]⟩⟩
set_option maxHeartbeats 800000 in
theorem empty_any {w : World} {d B : Nat} {L lf er : Int} {dn : Bool} {rv iv : Value} {fv : Value} {fs : List Tx} {ah : Int} (h : Dc w d L lf er dn rv iv L fv ah) (ht : TbR w B fv fs) :
    Calls Try.prog 44 #[.pointer (some ⟨d, 6, none⟩)] w fun e w' => e = .returned (.tuple #[]) ∧ TfP w d B L lf er dn rv iv fv [] (-1) w' := by
  obtain ⟨a, cap, rfl, hlc, hcm, -, ha0⟩ := ht.shape
  obtain ⟨k6, k7, k8⟩ := h.tab
  have kf := h.frz
  have h1 := h.set7 (.slice a 0 cap)
  obtain ⟨w1, hw1⟩ : ∃ w1, w.setCell ⟨d, 7, none⟩ (.slice a 0 cap) = w1 := ⟨_, rfl⟩
  rw [hw1] at h1
  obtain ⟨-, -, j8⟩ := h1.tab
  have jf := h1.frz
  have hne : (Value.slice a 0 cap).ownBlock ≠ some d := by have := h.neT ht; cases a <;> exact this
  have HP : Hid (TfP w d B L lf er dn rv iv (.slice a fs.length cap) [] (-1) (w1.setCell ⟨d, 8, none⟩ (.int .i64 (-1)))) := by
    refine ⟨.slice a 0 cap, h1.set8 _, ?_, ?_, .inl ?_⟩
    · rw [← hw1]; exact ((ht.cut.set hne _ _).set hne _ _)
    · rw [← hw1]; exact (frL_set 7 _).trans (frL_set 8 _) (.inl rfl)
    · cases a <;> rfl
  have hn0 : (0 : Int) ≤ (cap : Int) := by omega
  generalize fs.length = n at *
  clear h ht h1
  unfold maxLen at hcm
  go_enter Try.func44, Try.ntmps44
  go_wp2
  go_end0
  exact ⟨rfl, HP.out⟩
theorem new2a (w : World) (x y : Int) : (w.alloc (.cells #[.int .i64 x, .int .u8 y] 74)).cell? ((⟨w.heap.size, 0, none⟩ : Addr).add 0) = some (.int .i64 x) := World.cell?_alloc_mark ..
theorem new2b (w : World) (x y : Int) : (w.alloc (.cells #[.int .i64 x, .int .u8 y] 74)).cell? ((⟨w.heap.size, 0, none⟩ : Addr).add 1) = some (.int .u8 y) := World.cell?_alloc_mark ..
set_option maxRecDepth 100000 in
set_option maxHeartbeats 1600000 in
theorem learn_any {w : World} {d B L A : Nat} {lf er : Int} {dn : Bool} {rv iv : Value} {fv : Value} {fs : List Tx} {b : Int} (hL : 2 ≤ L ∧ L ≤ 8) (h : Dc w d L lf er dn rv iv L fv A) (ht : TbR w B fv fs) (hB : B ≤ w.heap.size) (hl : fs.length ≤ 4096) :
    Calls Try.prog 57 #[.pointer (some ⟨d, 6, none⟩), .int .u8 b] w fun e w' => e = .returned (.tuple #[]) ∧ TfP w d B L lf er dn rv iv fv (lrnN L fs A b) A w' := by
  obtain ⟨a, cap, rfl, hlc, hcm, -, ha0⟩ := ht.shape
  obtain ⟨k6, k7, k8⟩ := h.tab
  have kf := h.frz
  have CC := count_any hL k6 k7 hl
  have hF : 6 ≤ fcN L ∧ fcN L ≤ 258 := by have := fc_bd hL; unfold fcN; omega
  by_cases hr : fcN L + fs.length < 4096
  · have hrI : ((fcN L + fs.length : Nat) : Int) < 4096 := by omega
    have hlr : lrnN L fs A b = fs ++ [(A, b)] := by unfold lrnN; rw [if_pos hr]
    rw [hlr]
    have HT : Hid (Dc w d L lf er dn rv iv L (.slice a fs.length cap) A ∧ TbR w B (.slice a fs.length cap) fs ∧ B ≤ w.heap.size ∧ fs.length ≤ 4096) := ⟨h, ht, hB, hl⟩
    have HG : Hid (∀ (W : World) v7 w7, TbR w7 B v7 (fs ++ [(A, b)]) → W.grownBy w7 (Value.slice a fs.length cap).ownBlock → (v7.ownBlock = (Value.slice a fs.length cap).ownBlock ∨ ∃ k, v7.ownBlock = some k ∧ W.heap.size ≤ k) → Below w.heap.size w W →
        w7.cell? ⟨d, 7, none⟩ = some (.slice a fs.length cap) ∧ w7.frozen? ⟨d, 7, none⟩ = false ∧ TfP w d B L lf er dn rv iv (.slice a fs.length cap) (fs ++ [(A, b)]) A (w7.setCell ⟨d, 7, none⟩ v7)) := by
      intro W v7 w7 q1 q2 q3 hb
      have hdl := lt_of_block h
      have hd7 : Dc w7 d L lf er dn rv iv L (.slice a fs.length cap) A := h.of ((q2.block d (Nat.lt_of_lt_of_le hdl hb.size) (fun e => h.neT ht e.symm)).trans (hb.block d hdl))
      obtain ⟨-, y7, -⟩ := hd7.tab
      refine ⟨y7, hd7.frz 7, v7, hd7.set7 v7, q1.set (hd7.neT q1) _ _, ?_, ?_⟩
      · exact ((frL_below hb).trans (frL_grown q2) (.inl rfl)).trans (frL_set 7 _) (.inl rfl)
      · rcases q3 with e | ⟨k, e, hk⟩
        · exact .inl e
        · exact .inr ⟨k, e, by have := hb.size; omega⟩
    have HD : Hid (d < w.heap.size) := lt_of_block h
    obtain ⟨N, hN⟩ : ∃ N, fcN L + fs.length = N := ⟨_, rfl⟩
    rw [hN] at CC hrI
    obtain ⟨n, hn⟩ : ∃ n, fs.length = n := ⟨_, rfl⟩
    have Hn : Hid (fs.length = n) := hn
    rw [hn] at HT HG k7 ⊢
    clear h ht hB hl hN hn hr hF hlr hlc hcm ha0
    go_enter Try.func57, Try.ntmps57
    go_wp2_with fail
    refine CC.mono ?_
    clear CC
    rintro e w1 ⟨rfl, rfl⟩
    have j7 : w.drew.cell? ⟨d, 7, none⟩ = _ := k7
    have j8 : w.drew.cell? ⟨d, 8, none⟩ = _ := k8
    have i7 : w.drew.drew.cell? ⟨d, 7, none⟩ = _ := k7
    have i8 : w.drew.drew.cell? ⟨d, 8, none⟩ = _ := k8
    have m7 : ∀ o, (w.alloc o).cell? ⟨d, 7, none⟩ = some (.slice a n cap) := fun o => (World.cell?_of_block (a := ⟨d, 7, none⟩) (Below.heap_alloc w o d HD.out)).trans k7
    go_wp2
    go_region_law (first
      | (refine step_text rfl _ _ rfl B (.slice a n cap) fs (A, b) rfl (by have := HT.out.2.1.drewN 2; rw [Hn.out] at *; exact this.same fun k c _ hk => Below.heap_alloc _ _ _ (lt_of_block hk)) ⟨w.heap.size, 0, none⟩ 1 rfl (new2a _ _ _) (new2b _ _ _) (by have := HT.out; rw [Hn.out]; omega) (by have := HT.out; simp; omega) ?_; intro v7 w7 g1 g2 g3; obtain ⟨y1, y2, y3⟩ := HG.out _ v7 w7 g1 g2 g3 ⟨rfl, rfl, rfl, by simp, fun k hk => Below.heap_alloc w _ _ hk⟩; obtain ⟨a7, c7, hv7, -⟩ := g1.shape; generalize (fs ++ [(A, b)]).length = z7 at hv7; subst hv7; have HP : Hid (TfP w d B L lf er dn rv iv (.slice a n cap) (fs ++ [(A, b)]) A (w7.setCell ⟨d, 7, none⟩ (.slice a7 z7 c7))) := y3; clear g1 g2 g3 y3 HG HT)
      | fail)
    all_goals
      go_wp2
      go_end0
      exact ⟨rfl, HP.out⟩
  · have hrI : ¬ ((fcN L + fs.length : Nat) : Int) < 4096 := by omega
    have hlr : lrnN L fs A b = fs := by unfold lrnN; rw [if_neg hr]
    rw [hlr]
    have HP : Hid (TfP w d B L lf er dn rv iv (.slice a fs.length cap) fs A w.drew) := ⟨.slice a fs.length cap, h, ht.same fun _ _ _ _ => rfl, ⟨rfl, rfl, rfl, Nat.le_refl _, fun _ _ _ _ => rfl⟩, .inl rfl⟩
    obtain ⟨N, hN⟩ : ∃ N, fcN L + fs.length = N := ⟨_, rfl⟩
    rw [hN] at CC hrI
    generalize fs.length = n at *
    clear h ht hB hl hN hr hF hlr hlc hcm ha0
    go_enter Try.func57, Try.ntmps57
    go_wp2_with fail
    refine CC.mono ?_
    clear CC
    rintro e w1 ⟨rfl, rfl⟩
    go_wp2
    go_end0
    exact ⟨rfl, HP.out⟩
theorem fsC_lt {L : Nat} {fs : List Tx} (h : WfT L fs) (c : Nat) (hc : c < fcN L + fs.length) : fsC L fs c < fcN L := by
  induction c using Nat.strongRecOn with
  | ind c ih =>
  by_cases h1 : fcN L ≤ c
  · have ha := h.at h1 hc
    rw [fsC_step h h1 hc]
    exact ih _ ha.1 (by omega)
  · rw [fsC_root (by omega)]; omega
theorem frL_drew {w : World} {r : Nat} {g : Option Nat} (n : Nat) : Fr w (w.drewN n) r g := ⟨rfl, rfl, rfl, Nat.le_refl _, fun _ _ _ _ => rfl⟩
theorem TfP.after {w w1 w' : World} {d B : Nat} {L lf er : Int} {dn : Bool} {rv iv fv : Value} {fs' : List Tx} {ah' : Int} (h : TfP w1 d B L lf er dn rv iv fv fs' ah' w') (hf : Fr w w1 d fv.ownBlock) : TfP w d B L lf er dn rv iv fv fs' ah' w' := by
  obtain ⟨fv', h1, h2, h3, h4⟩ := h
  exact ⟨fv', h1, h2, hf.trans h3 (.inl rfl), h4.imp id fun ⟨k, e, hk⟩ => ⟨k, e, Nat.le_trans hf.size hk⟩⟩
theorem TfP.ahead {w w' : World} {d B : Nat} {L lf er : Int} {dn : Bool} {rv iv fv : Value} {fs' : List Tx} {ah' : Int} (h : TfP w d B L lf er dn rv iv fv fs' ah' w') (x : Int) : TfP w d B L lf er dn rv iv fv fs' x (w'.setCell ⟨d, 8, none⟩ (.int .i64 x)) ∧ w'.cell? ⟨d, 8, none⟩ = some (.int .i64 ah') ∧ w'.frozen? ⟨d, 8, none⟩ = false := by
  obtain ⟨fv', h1, h2, h3, h4⟩ := h
  exact ⟨⟨fv', h1.set8 x, h2.set (h1.neT h2) _ _, h3.trans (frL_set 8 _) (.inl rfl), h4⟩, h1.tab.2.2, h1.frz 8⟩
/-- May the code come next: the table behind it, or what stays. -/
def FoP (w : World) (d B L : Nat) (lf er : Int) (dn : Bool) (rv iv : Value) (fv : Value) (fs : List Tx) (ah : Int) (c : Nat) (e : Ending) (w' : World) : Prop :=
  match flwN L fs ah c with
  | none => e = .returned (.bool false) ∧ ∃ n, w' = w.drewN n
  | some fs' => e = .returned (.bool true) ∧ TfP w d B L lf er dn rv iv fv fs' c w'
set_option maxHeartbeats 3200000 in
theorem follow_any {w : World} {d B L c : Nat} {lf er : Int} {dn : Bool} {rv iv : Value} {fv : Value} {fs : List Tx} {ah : Int} (hL : 2 ≤ L ∧ L ≤ 8) (h : Dc w d L lf er dn rv iv L fv ah) (ht : TbR w B fv fs) (hB : B ≤ w.heap.size) (hwf : WfT L fs) (hl : fs.length ≤ 4096) (hah : ah = -1 ∨ ∃ A : Nat, ah = (A : Int) ∧ A < fcN L + fs.length) :
    Calls Try.prog 46 #[.pointer (some ⟨d, 6, none⟩), .int .i64 c] w fun e w' => FoP w d B L lf er dn rv iv fv fs ah c e w' := by
  obtain ⟨k6, k7, k8⟩ := h.tab
  have kf := h.frz
  rcases hah with rfl | ⟨A, rfl, hA⟩
  · have CC := clearCode_any hL w
    have hb := fc_bd hL
    obtain ⟨P, hP⟩ : ∃ P, 2 ^ L = P := ⟨_, rfl⟩
    rw [hP] at CC hb
    by_cases hge : P ≤ c
    · have hgI : (P : Int) ≤ (c : Int) := by omega
      have HP : Hid (FoP w d B L lf er dn rv iv fv fs (-1) c (.returned (.bool false)) w) := by
        unfold Hid FoP flwN; rw [if_pos rfl, if_pos (by rw [hP]; exact hge)]; exact ⟨rfl, 0, rfl⟩
      clear h ht hB hwf hl hP hL
      go_enter Try.func46, Try.ntmps46
      go_wp2_with fail
      refine CC.mono ?_
      rintro e w1 ⟨rfl, rfl⟩
      go_wp2
      go_ret
      exact HP.out
    · have hgI : ¬ (P : Int) ≤ (c : Int) := by omega
      have HP : Hid (FoP w d B L lf er dn rv iv fv fs (-1) c (.returned (.bool true)) (w.setCell ⟨d, 8, none⟩ (.int .i64 c))) := by
        unfold Hid FoP flwN; rw [if_pos rfl, if_neg (by rw [hP]; exact hge)]
        exact ⟨rfl, fv, h.set8 c, ht.set (h.neT ht) _ _, frL_set 8 _, .inl rfl⟩
      clear h ht hB hwf hl hP hL
      go_enter Try.func46, Try.ntmps46
      go_wp2_with fail
      refine CC.mono ?_
      rintro e w1 ⟨rfl, rfl⟩
      go_wp2
      go_ret
      exact HP.out
  · obtain ⟨a, cap, rfl, hlc, hcm, -, ha0⟩ := ht.shape
    have CC := count_any hL k6 k7 hl
    have CC2 := count_any (w := w.drew) hL k6 k7 hl
    have hAm : ¬ (A : Int) = -1 := by omega
    have hF : 6 ≤ fcN L ∧ fcN L ≤ 258 := by have := fc_bd hL; unfold fcN; omega
    by_cases h1 : c < fcN L + fs.length
    · have h1I : (c : Int) < ((fcN L + fs.length : Nat) : Int) := by omega
      have CF := first_any (w := w.drew) hL k6 k7 (ht.same fun _ _ _ _ => rfl) hwf hl h1
      have HL : Hid (∀ n, Calls Try.prog 57 #[.pointer (some ⟨d, 6, none⟩), .int .u8 ((fsC L fs c : Int) % 256)] (w.drewN n) fun e w' => e = .returned (.tuple #[]) ∧ TfP (w.drewN n) d B L lf er dn rv iv (.slice a fs.length cap) (lrnN L fs A ((fsC L fs c : Int) % 256)) A w') := fun n => learn_any hL h (ht.drewN n) hB hl
      have HP : Hid (∀ n w', TfP (w.drewN n) d B L lf er dn rv iv (.slice a fs.length cap) (lrnN L fs A ((fsC L fs c : Int) % 256)) A w' → w'.cell? ⟨d, 8, none⟩ = some (.int .i64 A) ∧ w'.frozen? ⟨d, 8, none⟩ = false ∧ FoP w d B L lf er dn rv iv (.slice a fs.length cap) fs A c (.returned (.bool true)) (w'.setCell ⟨d, 8, none⟩ (.int .i64 c))) := fun n w' q => by
        obtain ⟨q1, q2, q3⟩ := (q.after (frL_drew n)).ahead (c : Int)
        refine ⟨q2, q3, ?_⟩
        unfold FoP flwN; rw [if_neg hAm, if_pos h1, Int.toNat_natCast]
        exact ⟨rfl, q1⟩
      generalize (fsC L fs c : Int) % 256 = b at *
      generalize fcN L + fs.length = N at *
      generalize fs.length = n at *
      clear h ht hB hwf hl hF h1 hcm hlc ha0 hL CC2
      go_enter Try.func46, Try.ntmps46
      go_wp2_with fail
      refine CC.mono ?_
      clear CC
      rintro e w1 ⟨rfl, rfl⟩
      go_wp2_with fail
      refine CF.mono ?_
      clear CF
      rintro e w1 ⟨rfl, m, rfl⟩
      have CL := HL.out (1 + m)
      go_wp2_with fail
      refine CL.mono ?_
      clear CL
      rintro e w1 ⟨rfl, q⟩
      obtain ⟨y1, y2, y3⟩ := HP.out _ w1 q
      have HQ : Hid (FoP w d B L lf er dn rv iv (.slice a n cap) fs A c (.returned (.bool true)) (w1.setCell ⟨d, 8, none⟩ (.int .i64 c))) := y3
      clear q y3 HP HL
      go_wp2
      go_ret
      exact HQ.out
    · by_cases h2 : c = fcN L + fs.length
      · have h1I : ¬ (c : Int) < ((fcN L + fs.length : Nat) : Int) := by omega
        have h2I : (c : Int) = ((fcN L + fs.length : Nat) : Int) := by omega
        have CF := first_any (w := w.drew.drew) hL k6 k7 (ht.same fun _ _ _ _ => rfl) hwf hl hA
        have HL : Hid (∀ n, Calls Try.prog 57 #[.pointer (some ⟨d, 6, none⟩), .int .u8 ((fsC L fs A : Int) % 256)] (w.drewN n) fun e w' => e = .returned (.tuple #[]) ∧ TfP (w.drewN n) d B L lf er dn rv iv (.slice a fs.length cap) (lrnN L fs A ((fsC L fs A : Int) % 256)) A w') := fun n => learn_any hL h (ht.drewN n) hB hl
        have HP : Hid (∀ n w', TfP (w.drewN n) d B L lf er dn rv iv (.slice a fs.length cap) (lrnN L fs A ((fsC L fs A : Int) % 256)) A w' → w'.cell? ⟨d, 8, none⟩ = some (.int .i64 A) ∧ w'.frozen? ⟨d, 8, none⟩ = false ∧ FoP w d B L lf er dn rv iv (.slice a fs.length cap) fs A c (.returned (.bool true)) (w'.setCell ⟨d, 8, none⟩ (.int .i64 c))) := fun n w' q => by
          obtain ⟨q1, q2, q3⟩ := (q.after (frL_drew n)).ahead (c : Int)
          refine ⟨q2, q3, ?_⟩
          unfold FoP flwN; rw [if_neg hAm, if_neg h1, if_pos h2, Int.toNat_natCast]
          exact ⟨rfl, q1⟩
        generalize (fsC L fs A : Int) % 256 = b at *
        have hw8 : w.drew.drew.cell? ⟨d, 8, none⟩ = some (.int .i64 A) := k8
        have HN : Hid ((fcN L + fs.length : Nat) = c) := h2.symm
        rw [← h2] at CC CC2
        generalize fs.length = n at *
        clear h ht hB hwf hl hF h1 h2 h1I h2I hcm hlc ha0 hL HN
        go_enter Try.func46, Try.ntmps46
        go_wp2_with fail
        refine CC.mono ?_
        clear CC
        rintro e w1 ⟨rfl, rfl⟩
        go_wp2_with fail
        refine CC2.mono ?_
        clear CC2
        rintro e w1 ⟨rfl, rfl⟩
        go_wp2_with fail
        refine CF.mono ?_
        clear CF
        rintro e w1 ⟨rfl, m, rfl⟩
        have CL := HL.out (1 + (1 + m))
        go_wp2_with fail
        refine CL.mono ?_
        clear CL
        rintro e w1 ⟨rfl, q⟩
        obtain ⟨y1, y2, y3⟩ := HP.out _ w1 q
        have HQ : Hid (FoP w d B L lf er dn rv iv (.slice a n cap) fs A c (.returned (.bool true)) (w1.setCell ⟨d, 8, none⟩ (.int .i64 c))) := y3
        clear q y3 HP HL
        go_wp2
        go_ret
        exact HQ.out
      · have h1I : ¬ (c : Int) < ((fcN L + fs.length : Nat) : Int) := by omega
        have h2I : ¬ (c : Int) = ((fcN L + fs.length : Nat) : Int) := by omega
        have HP : Hid (FoP w d B L lf er dn rv iv (.slice a fs.length cap) fs A c (.returned (.bool false)) w.drew.drew) := by
          unfold Hid FoP flwN; rw [if_neg hAm, if_neg h1, if_neg h2]; exact ⟨rfl, 2, rfl⟩
        generalize fcN L + fs.length = N at *
        generalize fs.length = n at *
        clear h ht hB hwf hl hF h1 h2 hcm hlc ha0 hL
        go_enter Try.func46, Try.ntmps46
        go_wp2_with fail
        refine CC.mono ?_
        clear CC
        rintro e w1 ⟨rfl, rfl⟩
        go_wp2_with fail
        refine CC2.mono ?_
        clear CC2
        rintro e w1 ⟨rfl, rfl⟩
        go_wp2
        go_ret
        exact HP.out
end Go.Proofs.Ytcbmlioeeoghkaa
