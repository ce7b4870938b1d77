import Derived.Test.YtaenojkgdlpclaaPrB
namespace Go.Proofs.Ytaenojkgdlpclaa
open Go.RowKit

theorem have_both {zs L : List Int} {gone n : Nat} (h : RI zs gone L n) (hl : L.length ≤ 100000) :
    ∃ V : Int, (∀ r g w, Rd w r g zs gone → Calls Try.prog 22 #[.pointer (some ⟨r, 0, none⟩)] w fun e w' => e = .returned (.int .i64 V) ∧ ∃ q, w' = w.drewN q) ∧
      (∀ x g w, RRf w x g L n → Calls Try.prog 23 #[.pointer (some ⟨x, 0, none⟩)] w fun e w' => e = .returned (.int .i64 V) ∧ ∃ q, w' = w.drewN q) := by
  have hlen := h.len
  refine ⟨(zs.length : Int) * 8 - gone, fun r g w hr => have_any r g zs gone w hr (by omega) (by omega), fun x g w hr => ?_⟩
  have := rhave_any x g L n w hr (by omega) h.le
  rw [show (L.length : Int) - n = (zs.length : Int) * 8 - gone by omega] at this
  exact this
theorem PR.far {S : Nat} {w wr w' : World} {r x : Nat} {g gl : Option Nat} {zs L : List Int} {gone n : Nat} (p : PR w wr r g zs gone x gl L n) (hr : r < S) (hx : x < S) (hg : ∀ k, g = some k → k < S) (hgl : ∀ k, gl = some k → k < S) (hb : Below S wr w') (hS : w.heap.size ≤ S) : PR w w' r g zs gone x gl L n :=
  ⟨p.rd.below hb hr hg, p.rf.same (hb.block _ hx) fun k hk => hb.block _ (hgl k hk), p.r0, p.x0, p.g0, p.l0, p.bel.trans (hb.mono hS)⟩
/-- The bytes that were fed, whatever they have become, beside both readers. -/
def OLoop (w : World) (r : Nat) (g : Option Nat) (zs : List Int) (gone : Nat) (x : Nat) (gl : Option Nat) (L : List Int) (n : Nat) (a5 : Option Addr) (m c5 : Nat) (g5 : Option Nat) (wq : World) : Prop :=
  ∃ Y : List Int, Y.length = m ∧ Bytes Y ∧ Sl wq 5 (.slice a5 m c5) g5 (vals Y) ∧ PR w wq r g zs gone x gl L n
theorem Sl.stored5 {w : World} {g : Option Nat} {Y : List Int} {b off n cap : Nat} (h : Sl w 5 (.slice (some ⟨b, off, none⟩) n cap) g (vals Y)) (k : Nat) (hk : k < Y.length) (z : Int) : Sl (w.setCell ⟨b, off + k, none⟩ (.int .u8 z)) 5 (.slice (some ⟨b, off, none⟩) n cap) g (vals (Y.set k z)) := h.stored k hk z

set_option maxHeartbeats 6400000 in
set_option maxRecDepth 100000 in
theorem reads_walk (a : Option Addr) (len cap : Nat) (F : Nat → Ak) (w : World) (h : AArg w a len cap F) :
    Calls Try.prog 3 #[.slice a len cap] w fun e w' => e = .returned (.bool true) ∧ Below w.heap.size w w' := by
  have HA : Hid (AArg w a len cap F) := h
  obtain ⟨hl, hm, hF⟩ := h
  unfold maxLen at hm
  have HF : Hid (0 < len → ∃ b off, a = some ⟨b, off, none⟩ ∧ ∀ i, i < len → (w.cell? ⟨b, off + i * 3, none⟩ = some (.int .u8 (F i).k) ∧ w.cell? ⟨b, off + i * 3 + 1, none⟩ = some (.int .i64 (F i).n) ∧ w.cell? ⟨b, off + i * 3 + 2, none⟩ = some (.slice (F i).a (F i).z.length (F i).c)) ∧ AskOk w (F i)) := hF
  clear hF
  go_enter Try.func3, Try.ntmps3
  go_wp2_with fail
  refine (fixed_any _).mono ?_
  rintro e w1 ⟨rfl, hb1⟩
  go_wp2_with fail
  refine (few_any a len cap F w1 (HA.out.old hb1)).mono ?_
  rintro e w2 ⟨he, hb2⟩
  have hb12 : Below w.heap.size w w2 := hb1.trans (hb2.mono hb1.size)
  rcases he with rfl | ⟨rfl, hsum⟩
  · go_wp2
    go_ret
    exact ⟨rfl, hb12⟩
  go_wp2_with fail
  refine (new_any _).mono ?_
  rintro e w3 ⟨r, rfl, hr, hrd, hb3⟩
  have HW : Hid (PR w (w3.alloc (.cells #[.slice none 0 0, .int .i64 0] 30)) r none [] 0 w3.heap.size none [] 0) := by
    have hs := hb12.size
    have hs3 := hb3.size
    have hb13 : Below w.heap.size w w3 := hb12.trans (hb3.mono hb12.size)
    exact ⟨hrd.old ((Below.refl _ _).alloc (Nat.le_refl _) _), ⟨_, heap_alloc_new _ _, Sl.nil _ _⟩, by omega, by omega, (by intro k hk; cases hk), (by intro k hk; cases hk), hb13.alloc (by omega) _⟩
  have HSUM : Hid (lenS F len ≤ 6000) := hsum
  clear hrd hb1 hb2 hb3 hb12 hr hsum HA
  obtain ⟨x, hx⟩ : ∃ x, x = w3.heap.size := ⟨_, rfl⟩
  rw [← hx] at HW
  go_wp2
  rw [← hx]
  obtain ⟨w4, hw4⟩ : ∃ w4, w4 = w3.alloc (.cells #[.slice none 0 0, .int .i64 0] 30) := ⟨_, rfl⟩
  rw [← hw4] at HW ⊢
  clear hx hw4
  go_loopw [6, 23] (fun _ t wr => ∃ i : Nat, i ≤ len ∧ t = .int .i64 i ∧ ∃ g zs gone gl L n, PR w wr r g zs gone x gl L n ∧ RI zs gone L n ∧ L.length ≤ 8 * lenS F i) (fun _ t _ => len - (intOf t).toNat)
  case atStart => exact ⟨0, Nat.zero_le _, rfl, none, [], 0, none, [], 0, HW.out, RI.nil, Nat.zero_le _⟩
  case round =>
    clear HW
    obtain ⟨i, hi, rfl, g, zs, gone, gl, L, n, P, hri, hLl⟩ := hrel
    by_cases hlt : i < len
    · obtain ⟨b, off, hab, hc⟩ := HF.out (by omega)
      have hbw : b < w.heap.size := cell_lt (hc i hlt).1.1
      have q0 : wr.cell? ⟨b, off + i * 3, none⟩ = some (.int .u8 (F i).k) := (P.bel.cell (p := ⟨b, _, none⟩) hbw).trans (hc i hlt).1.1
      have q1 : wr.cell? ⟨b, off + i * 3 + 1, none⟩ = some (.int .i64 (F i).n) := (P.bel.cell (p := ⟨b, _, none⟩) hbw).trans (hc i hlt).1.2.1
      have q2 : wr.cell? ⟨b, off + i * 3 + 2, none⟩ = some (.slice (F i).a (F i).z.length (F i).c) := (P.bel.cell (p := ⟨b, _, none⟩) hbw).trans (hc i hlt).1.2.2
      have hok := (hc i hlt).2
      have hS1 : lenS F (i + 1) = lenS F i + (F i).z.length := rfl
      have hS2 : lenS F (i + 1) ≤ 6000 := by
        have h1 := lenS_mono F (i + 1) (len - (i + 1))
        rw [show i + 1 + (len - (i + 1)) = len by omega] at h1
        have := HSUM.out
        omega
      subst hab
      clear hc
      generalize F i = f at *
      obtain ⟨fk, fn, fa, fc, fz⟩ := f
      simp only [AskOk] at q0 q1 q2 hok hS1
      have HOK : Hid (Bytes fz ∧ fz.length ≤ fc ∧ (fa = none → fc = 0) ∧ Row w fa fz) := ⟨hok.2.2.1, hok.2.2.2.1, hok.2.2.2.2.2.1, hok.2.2.2.2.2.2⟩
      have hk0 : 0 ≤ fk ∧ fk < 256 := ⟨hok.1, hok.2.1⟩
      have hzl : fz.length ≤ 6000 := by omega
      have hfc : fc ≤ 140737488351232 := hok.2.2.2.2.1
      have HRI : Hid (RI zs gone L n ∧ L.length ≤ 8 * lenS F i ∧ L.length ≤ 100000) := ⟨hri, hLl, by omega⟩
      have HLS : Hid (lenS F (i + 1) = lenS F i + fz.length ∧ lenS F (i + 1) ≤ 6000) := ⟨hS1, hS2⟩
      obtain ⟨W1, hW1⟩ : ∃ W1, W1 = wr.alloc (.cells #[.int .u8 fk, .int .i64 fn, .slice fa fz.length fc] 33) := ⟨_, rfl⟩
      have HBX : Hid (W1.heap[wr.heap.size]? = some (.cells #[.int .u8 fk, .int .i64 fn, .slice fa fz.length fc] 33 (0, 0))) := by rw [hW1]; exact heap_alloc_new _ _
      have P1 : PR w W1 r g zs gone x gl L n := by rw [hW1]; exact P.old ((Below.refl _ _).alloc (Nat.le_refl _) _)
      have HNE : Hid (wr.heap.size ≠ r ∧ wr.heap.size ≠ x ∧ some wr.heap.size ≠ g ∧ some wr.heap.size ≠ gl) := by
        have h1 := P.rd.lt
        have h2 := P.rf.lt
        exact ⟨by omega, by omega, fun e => by have := P.rd.glt e.symm; omega, fun e => by have := P.rf.glt e.symm; omega⟩
      have HW1 : Hid (W1 = wr.alloc (.cells #[.int .u8 fk, .int .i64 fn, .slice fa fz.length fc] 33)) := hW1
      have HLT0 : Hid (r < wr.heap.size ∧ x < wr.heap.size ∧ (∀ k, g = some k → k < wr.heap.size) ∧ (∀ k, gl = some k → k < wr.heap.size) ∧ w.heap.size ≤ wr.heap.size) := ⟨P.rd.lt, P.rf.lt, fun k hk => P.rd.glt hk, fun k hk => P.rf.glt hk, P.bel.size⟩
      clear P hri hLl hok hS1 hS2 hW1
      have h5 : fk % 5 = 0 ∨ fk % 5 = 1 ∨ fk % 5 = 2 ∨ fk % 5 = 3 ∨ fk % 5 = 4 := by omega
      rcases h5 with h5 | h5 | h5 | h5 | h5
      · have HSZ : Hid (W1.heap.size = wr.heap.size + 1) := by rw [HW1.out]; simp [Hid]
        have HLT : Hid (r < wr.heap.size ∧ x < wr.heap.size ∧ (∀ k, g = some k → k < wr.heap.size) ∧ (∀ k, gl = some k → k < wr.heap.size) ∧ w.heap.size ≤ wr.heap.size) := HLT0.out
        have HRW : Hid (∀ wq, Below w.heap.size w wq → Row wq fa fz) := fun wq hq => HOK.out.2.2.2.old hq
        have HS0 : Hid (Sl ((wr.alloc (.cells #[.int .u8 fk, .int .i64 fn, .slice fa fz.length fc] 33)).alloc (.cells #[] 5)) 5 (.slice (some ⟨wr.heap.size + 1, 0, none⟩) 0 0) (some (wr.heap.size + 1)) (vals [])) := by
          rw [← HW1.out, ← HSZ.out]
          exact .inr ⟨_, 0, 0, #[], rfl, rfl, heap_alloc_new _ _, by simp, by simp [vals], by unfold maxLen; omega, fun j hj => by simp [vals] at hj⟩
        have HP2 : Hid (PR w ((wr.alloc (.cells #[.int .u8 fk, .int .i64 fn, .slice fa fz.length fc] 33)).alloc (.cells #[] 5)) r g zs gone x gl L n) := by
          rw [← HW1.out]
          exact P1.old ((Below.refl _ _).alloc (Nat.le_refl _) _)
        have HBX2 : Hid (((wr.alloc (.cells #[.int .u8 fk, .int .i64 fn, .slice fa fz.length fc] 33)).alloc (.cells #[] 5)).heap[wr.heap.size]? = some (.cells #[.int .u8 fk, .int .i64 fn, .slice fa fz.length fc] 33 (0, 0))) := by
          rw [← HW1.out]
          exact (Below.heap_alloc W1 _ _ (lt_of_block HBX.out)).trans HBX.out
        clear P1
        go_wp2_with (at_builtin; refine wpList_append_bytes rfl _ _ rfl _ _ [] rfl HS0.out fa fz.length fc fz rfl rfl HOK.out.2.2.1 (HRW.out _ HP2.out.bel) (by simp; omega) ?_)
        intro v7 w7 g7 hs7 hg7 hgr7
        obtain ⟨a7, c7, hv7, hl7, hm7, hn7⟩ := hs7.shape
        rw [vals_len] at hv7
        rw [hv7]
        rw [hv7] at hs7
        have P7 : PR w w7 r g zs gone x gl L n := HP2.out.far HLT.out.1 HLT.out.2.1 HLT.out.2.2.1 HLT.out.2.2.2.1 ((Below.refl wr.heap.size _).grown hgr7 (by simp; omega) (by intro k hk; cases hk; omega)) HLT.out.2.2.2.2
        have hk7 : ∀ k, g7 = some k → wr.heap.size + 1 ≤ k := by
          intro k hk
          rcases hg7 with e | ⟨q, e, hq⟩
          · rw [e] at hk; cases hk; omega
          · rw [e] at hk; cases hk; first | omega | (simp at hq; omega)
        have hbx7 := (hgr7.block wr.heap.size (lt_of_block HBX2.out) (by simp)).trans HBX2.out
        clear hgr7 hg7 HP2 HBX2 HS0 hv7 hl7 hm7
        go_wp2_with fail
        refine (feed_any r g zs fz gone a7 fz.length c7 w7 P7.rd rfl hn7 (hs7.row rfl) (by have := HRI.out.1.len; have := HRI.out.2.2; omega)).mono ?_
        rintro e w8 ⟨rfl, g8, hr8, hg8, hf8⟩
        have P8 := P7.first hr8 hf8 hg8
        have hs8 : Sl w8 5 (.slice a7 fz.length c7) g7 (vals fz) := hs7.same fun k hk => hf8.block k (hs7.lt hk) (by have := hk7 k hk; have := HLT.out.1; omega) (fun e => by have := hk7 k hk; have := HLT.out.2.2.1 k e.symm; omega)
        have hk8 : ∀ k, g7 = some k → some k ≠ g8 := by
          intro k hk e
          rcases hg8 with e' | ⟨q, e', hq⟩
          · rw [e'] at e; have := hk7 k hk; have := HLT.out.2.2.1 k e.symm; omega
          · rw [e'] at e; cases e; have := hs7.lt hk; omega
        have hbx8 := hf8.keep hbx7 HNE.out.1 HNE.out.2.2.1
        have hq8 : w8.cell? ⟨wr.heap.size, 2, none⟩ = some (.slice fa fz.length fc) := (ask_cells hbx8).2
        clear P7 hr8 hg8 hf8 hs7 hbx7
        go_wp2_with fail
        refine (rfeed_any x gl L n fa fz.length fc fz w8 P8.rf HRI.out.2.2 rfl hzl HOK.out.1 (HRW.out _ P8.bel)).mono ?_
        rintro e w9 ⟨rfl, g9, hr9, hg9, hf9⟩
        have P9 := P8.second hr9 hf9 hg9
        have hs9 : Sl w9 5 (.slice a7 fz.length c7) g7 (vals fz) := hs8.same fun k hk => hf9.block k (hs8.lt hk) (by have := hk7 k hk; have := HLT.out.2.1; omega) (fun e => by have := hk7 k hk; have := HLT.out.2.2.2.1 k e.symm; omega)
        have hk9 : ∀ k, g7 = some k → some k ≠ g9 := by
          intro k hk e
          rcases hg9 with e' | ⟨q, e', hq⟩
          · rw [e'] at e; have := hk7 k hk; have := HLT.out.2.2.2.1 k e.symm; omega
          · rw [e'] at e; cases e; have := hs8.lt hk; omega
        have HG7 : Hid (∀ k, g7 = some k → w.heap.size ≤ k ∧ k ≠ r ∧ k ≠ x ∧ some k ≠ g8 ∧ some k ≠ g9) := fun k hk => ⟨by have := hk7 k hk; have := HLT.out.2.2.2.2; omega, by have := hk7 k hk; have := HLT.out.1; omega, by have := hk7 k hk; have := HLT.out.2.1; omega, hk8 k hk, hk9 k hk⟩
        have HI6' : RI (zs ++ fz) gone (L ++ bitsL fz) n ∧ (L ++ bitsL fz).length ≤ 8 * lenS F (i + 1) := ⟨HRI.out.1.feed HOK.out.1, by rw [List.length_append, bitsL_len]; have := HRI.out.2.1; have := HLS.out.1; omega⟩
        generalize zs ++ fz = z6 at *
        generalize L ++ bitsL fz = L6 at *
        have HI6 : Hid (RI z6 gone L6 n ∧ L6.length ≤ 8 * lenS F (i + 1)) := HI6'
        have HIN : Hid (OLoop w r g8 z6 gone x g9 L6 n a7 fz.length c7 g7 w9) := ⟨fz, rfl, HOK.out.1, hs9, P9⟩
        clear HI6' P8 P9 hs8 hs9 hr9 hg9 hf9 hbx8 hq8 hk7 hk8 hk9 HBX HW1 HSZ q0 q1 q2 hn7
        go_wp2
        go_loopw [8, 55] (fun _ t wq => ∃ k : Nat, k ≤ fz.length ∧ t = .int .i64 k ∧ OLoop w r g8 z6 gone x g9 L6 n a7 fz.length c7 g7 wq) (fun _ t _ => fz.length - (intOf t).toNat)
        case atStart => exact ⟨0, Nat.zero_le _, rfl, HIN.out⟩
        case round =>
          clear HIN
          obtain ⟨k, hk, rfl, Y, hY, hYb, hsY, PY⟩ := hrel
          by_cases hlt2 : k < fz.length
          · obtain ⟨b5, off5, hab⟩ : ∃ b off, a7 = some ⟨b, off, none⟩ := by
              rcases hsY with ⟨h, _, hx⟩ | ⟨b, off, cap, cur, h, _⟩
              · have hy0 : Y.length = 0 := by
                  have := congrArg List.length hx
                  rw [vals_len] at this; exact this
                omega
              · simp only [Value.slice.injEq] at h; exact ⟨b, off, h.1⟩
            subst hab
            have hgb : g7 = some b5 := by
              rcases hsY with ⟨h, _⟩ | ⟨b', off', cq, cur, h, h', _⟩
              · cases h
              · simp only [Value.slice.injEq, Option.some.injEq, Addr.mk.injEq] at h; rw [h', h.1.1]
            have hck : wr.cell? ⟨b5, off5 + k, none⟩ = some (.int .u8 (Y[k]?.getD 0)) := by rw [hsY.cell k (by rw [vals_len]; omega), vals_at _ _ (by omega)]
            have hfk : wr.frozen? ⟨b5, off5 + k, none⟩ = false := hsY.frozen _
            have hyb := hYb.at k
            have HST : Hid (∀ z : Int, 0 ≤ z → z < 256 → OLoop w r g8 z6 gone x g9 L6 n (some ⟨b5, off5, none⟩) fz.length c7 g7 (wr.setCell ⟨b5, off5 + k, none⟩ (.int .u8 z))) := by
              intro z h0 h1
              have hq := HG7.out b5 hgb
              refine ⟨Y.set k z, by rw [List.length_set]; exact hY, ?_, hsY.stored k (by omega) z, PY.set hq.1 hq.2.1 hq.2.2.1 hq.2.2.2.1 hq.2.2.2.2⟩
              intro y hy
              rcases List.mem_or_eq_of_mem_set hy with h | h
              · exact hYb y h
              · rw [h]; omega
            clear hsY PY hY hYb hgb
            generalize Y[k]?.getD 0 = y at *
            go_wp2
            go_roundw
            case rel => exact ⟨k + 1, by omega, by go_num, HST.out _ (by omega) (by omega)⟩
            case measure => simp [intOf]; omega
          · have P6 := PY
            clear hsY PY
            obtain ⟨V6, HC6', HD6'⟩ := have_both HI6.out.1 (by have := HI6.out.2; have := HLS.out.2; omega)
            have HC6 : Hid (∀ r g w, Rd w r g z6 gone → Calls Try.prog 22 #[.pointer (some ⟨r, 0, none⟩)] w fun e w' => e = .returned (.int .i64 V6) ∧ ∃ q, w' = w.drewN q) := HC6'
            have HD6 : Hid (∀ x g w, RRf w x g L6 n → Calls Try.prog 23 #[.pointer (some ⟨x, 0, none⟩)] w fun e w' => e = .returned (.int .i64 V6) ∧ ∃ q, w' = w.drewN q) := HD6'
            clear HC6' HD6'
            have HP6 : Hid (PR w wr r g8 z6 gone x g9 L6 n) := P6
            clear P6
            go_wp2_with fail
            refine (HC6.out _ _ _ HP6.out.rd).mono ?_
            rintro e w7 ⟨rfl, q7, rfl⟩
            go_wp2_with fail
            refine (HD6.out _ _ _ (HP6.out.rf.drewN q7)).mono ?_
            rintro e w8 ⟨rfl, q8, rfl⟩
            have HP9 : Hid (PR w ((wr.drewN q7).drewN q8) r g8 z6 gone x g9 L6 n) := (HP6.out.drewN q7).drewN q8
            generalize (wr.drewN q7).drewN q8 = w9 at *
            clear HP6 HC6 HD6
            go_wp2
            go_roundw
            case rel => exact ⟨i + 1, by omega, by go_num, g8, z6, gone, g9, L6, n, HP9.out, HI6.out.1, HI6.out.2⟩
            case measure => simp [intOf]; omega
      · obtain ⟨M, V, O, hM, CP', CR'⟩ := take_both HRI.out.1 HRI.out.2.2 fn
        have HM : Hid (gone + M ≤ 8 * zs.length) := hM
        have CP : Hid (∀ r g w, Rd w r g zs gone → Calls Try.prog 13 #[.pointer (some ⟨r, 0, none⟩), .int .i64 fn] w fun e w' => e = .returned (.tuple #[.int .i64 V, .bool O]) ∧ MP w r g zs gone M w') := CP'
        have CR : Hid (∀ x g w, RRf w x g L n → Calls Try.prog 14 #[.pointer (some ⟨x, 0, none⟩), .int .i64 fn] w fun e w' => e = .returned (.tuple #[.int .i64 V, .bool O]) ∧ MR w x g L n M w') := CR'
        clear hM CP' CR'
        go_wp2_with fail
        rw [← HW1.out]
        refine (CP.out _ _ _ P1.rd).mono ?_
        rintro e w5 ⟨rfl, hr5, hf5⟩
        have P5 := P1.first hr5 hf5 (.inl rfl)
        have hbx5 := hf5.keep HBX.out HNE.out.1 HNE.out.2.2.1
        have hq5 : w5.cell? ⟨wr.heap.size, 1, none⟩ = some (.int .i64 fn) := (ask_cells hbx5).1
        go_wp2_with fail
        refine (CR.out _ _ _ P5.rf).mono ?_
        rintro e w6 ⟨rfl, hr6, hf6⟩
        have P6 := P5.second hr6 hf6 (.inl rfl)
        clear hr5 hf5 P5 hbx5 hq5 hr6 hf6 P1 HBX HW1 q0 q1 q2 CP CR
        have HI6' : RI (zs.drop ((gone + M) / 8)) ((gone + M) % 8) L (n + M) ∧ L.length ≤ 8 * lenS F (i + 1) := ⟨HRI.out.1.pass M HM.out, by have := HRI.out.2.1; have := HLS.out.1; omega⟩
        generalize zs.drop ((gone + M) / 8) = z6 at *
        generalize (gone + M) % 8 = o6 at *
        generalize n + M = n6 at *
        obtain ⟨g6, hg6e⟩ : ∃ g6, g6 = g := ⟨_, rfl⟩
        obtain ⟨gl6, hgl6e⟩ : ∃ gl6, gl6 = gl := ⟨_, rfl⟩
        obtain ⟨L6, hL6e⟩ : ∃ L6, L6 = L := ⟨_, rfl⟩
        rw [← hg6e, ← hgl6e, ← hL6e] at P6
        rw [← hL6e] at HI6'
        have HI6 : Hid (RI z6 o6 L6 n6 ∧ L6.length ≤ 8 * lenS F (i + 1)) := HI6'
        clear HI6' hg6e hgl6e hL6e
        obtain ⟨V6, HC6', HD6'⟩ := have_both HI6.out.1 (by have := HI6.out.2; have := HLS.out.2; omega)
        have HC6 : Hid (∀ r g w, Rd w r g z6 o6 → Calls Try.prog 22 #[.pointer (some ⟨r, 0, none⟩)] w fun e w' => e = .returned (.int .i64 V6) ∧ ∃ q, w' = w.drewN q) := HC6'
        have HD6 : Hid (∀ x g w, RRf w x g L6 n6 → Calls Try.prog 23 #[.pointer (some ⟨x, 0, none⟩)] w fun e w' => e = .returned (.int .i64 V6) ∧ ∃ q, w' = w.drewN q) := HD6'
        clear HC6' HD6'
        have HP6 : Hid (PR w w6 r g6 z6 o6 x gl6 L6 n6) := P6
        clear P6
        go_wp2_with fail
        refine (HC6.out _ _ _ HP6.out.rd).mono ?_
        rintro e w7 ⟨rfl, q7, rfl⟩
        go_wp2_with fail
        refine (HD6.out _ _ _ (HP6.out.rf.drewN q7)).mono ?_
        rintro e w8 ⟨rfl, q8, rfl⟩
        have HP9 : Hid (PR w ((w6.drewN q7).drewN q8) r g6 z6 o6 x gl6 L6 n6) := (HP6.out.drewN q7).drewN q8
        generalize (w6.drewN q7).drewN q8 = w9 at *
        clear HP6 HC6 HD6
        go_wp2
        go_roundw
        case rel => exact ⟨i + 1, by omega, by go_num, g6, z6, o6, gl6, L6, n6, HP9.out, HI6.out.1, HI6.out.2⟩
        case measure => simp [intOf]; omega
      · obtain ⟨V, CP', CR'⟩ := look_both HRI.out.1 HRI.out.2.2 fn
        obtain ⟨M, hM0⟩ : ∃ M : Nat, M = 0 := ⟨_, rfl⟩
        have HM : Hid (gone + M ≤ 8 * zs.length) := by
          rw [hM0]; exact HRI.out.1.len.2.1
        have CP : Hid (∀ r g w, Rd w r g zs gone → Calls Try.prog 15 #[.pointer (some ⟨r, 0, none⟩), .int .i64 fn] w fun e w' => e = .returned (.int .i64 V) ∧ MP w r g zs gone M w') := by subst hM0; exact CP'
        have CR : Hid (∀ x g w, RRf w x g L n → Calls Try.prog 16 #[.pointer (some ⟨x, 0, none⟩), .int .i64 fn] w fun e w' => e = .returned (.int .i64 V) ∧ MR w x g L n M w') := by subst hM0; exact CR'
        clear hM0 CP' CR'
        go_wp2
        rw [← HW1.out]
        have hcell : W1.cell? ⟨wr.heap.size, 1, none⟩ = some (.int .i64 fn) := (ask_cells HBX.out).1
        go_region_held3 (fun w' => w'.cell? ⟨wr.heap.size, 1, none⟩ = some (.int .i64 fn)) (assumption) (first
          | (go_at_call 15; refine Calls.mono (CP.out _ _ _ (P1.rd.old ?_)) ?_; exact ⟨rfl, rfl, rfl, Nat.le_refl _, fun _ _ => rfl⟩; rintro e w5 ⟨rfl, hr5, hf5'⟩; have hf5 : Fr W1 w5 r g := ⟨hf5'.os, hf5'.tape, hf5'.output, hf5'.size, hf5'.block⟩; have P5 := P1.first hr5 hf5 (.inl rfl); have hbx5 := hf5.keep HBX.out HNE.out.1 HNE.out.2.2.1; have hq5 : w5.cell? ⟨wr.heap.size, 1, none⟩ = some (.int .i64 fn) := (ask_cells hbx5).1)
          | (go_at_call 16; refine (CR.out _ _ _ P5.rf).mono ?_; rintro e w6 ⟨rfl, hr6, hf6⟩; have P6 := P5.second hr6 hf6 (.inl rfl); have hbx6 := hf6.keep hbx5 HNE.out.2.1 HNE.out.2.2.2; have hq6 : w6.cell? ⟨wr.heap.size, 1, none⟩ = some (.int .i64 fn) := (ask_cells hbx6).1))
        clear hr5 hf5 hf5' P5 hbx5 hq5 hr6 hf6 hbx6 hq6 hcell P1 HBX HW1 q0 q1 q2 CP CR
        have HI6' : RI (zs.drop ((gone + M) / 8)) ((gone + M) % 8) L (n + M) ∧ L.length ≤ 8 * lenS F (i + 1) := ⟨HRI.out.1.pass M HM.out, by have := HRI.out.2.1; have := HLS.out.1; omega⟩
        generalize zs.drop ((gone + M) / 8) = z6 at *
        generalize (gone + M) % 8 = o6 at *
        generalize n + M = n6 at *
        obtain ⟨g6, hg6e⟩ : ∃ g6, g6 = g := ⟨_, rfl⟩
        obtain ⟨gl6, hgl6e⟩ : ∃ gl6, gl6 = gl := ⟨_, rfl⟩
        obtain ⟨L6, hL6e⟩ : ∃ L6, L6 = L := ⟨_, rfl⟩
        rw [← hg6e, ← hgl6e, ← hL6e] at P6
        rw [← hL6e] at HI6'
        have HI6 : Hid (RI z6 o6 L6 n6 ∧ L6.length ≤ 8 * lenS F (i + 1)) := HI6'
        clear HI6' hg6e hgl6e hL6e
        obtain ⟨V6, HC6', HD6'⟩ := have_both HI6.out.1 (by have := HI6.out.2; have := HLS.out.2; omega)
        have HC6 : Hid (∀ r g w, Rd w r g z6 o6 → Calls Try.prog 22 #[.pointer (some ⟨r, 0, none⟩)] w fun e w' => e = .returned (.int .i64 V6) ∧ ∃ q, w' = w.drewN q) := HC6'
        have HD6 : Hid (∀ x g w, RRf w x g L6 n6 → Calls Try.prog 23 #[.pointer (some ⟨x, 0, none⟩)] w fun e w' => e = .returned (.int .i64 V6) ∧ ∃ q, w' = w.drewN q) := HD6'
        clear HC6' HD6'
        have HP6 : Hid (PR w w6 r g6 z6 o6 x gl6 L6 n6) := P6
        clear P6
        go_wp2_with fail
        refine (HC6.out _ _ _ HP6.out.rd).mono ?_
        rintro e w7 ⟨rfl, q7, rfl⟩
        go_wp2_with fail
        refine (HD6.out _ _ _ (HP6.out.rf.drewN q7)).mono ?_
        rintro e w8 ⟨rfl, q8, rfl⟩
        have HP9 : Hid (PR w ((w6.drewN q7).drewN q8) r g6 z6 o6 x gl6 L6 n6) := (HP6.out.drewN q7).drewN q8
        generalize (w6.drewN q7).drewN q8 = w9 at *
        clear HP6 HC6 HD6
        go_wp2
        go_roundw
        case rel => exact ⟨i + 1, by omega, by go_num, g6, z6, o6, gl6, L6, n6, HP9.out, HI6.out.1, HI6.out.2⟩
        case measure => simp [intOf]; omega
      · obtain ⟨M, hM, CP', CR'⟩ := align_both HRI.out.1 HRI.out.2.2
        have HM : Hid (gone + M ≤ 8 * zs.length) := hM
        have CP : Hid (∀ r g w, Rd w r g zs gone → Calls Try.prog 17 #[.pointer (some ⟨r, 0, none⟩)] w fun e w' => e = .returned (.int .i64 M) ∧ MP w r g zs gone M w') := CP'
        have CR : Hid (∀ x g w, RRf w x g L n → Calls Try.prog 18 #[.pointer (some ⟨x, 0, none⟩)] w fun e w' => e = .returned (.int .i64 M) ∧ MR w x g L n M w') := CR'
        clear hM CP' CR'
        go_wp2_with fail
        rw [← HW1.out]
        refine (CP.out _ _ _ P1.rd).mono ?_
        rintro e w5 ⟨rfl, hr5, hf5⟩
        have P5 := P1.first hr5 hf5 (.inl rfl)
        go_wp2_with fail
        refine (CR.out _ _ _ P5.rf).mono ?_
        rintro e w6 ⟨rfl, hr6, hf6⟩
        have P6 := P5.second hr6 hf6 (.inl rfl)
        clear hr5 hf5 P5 hr6 hf6 P1 HBX HW1 q0 q1 q2 CP CR
        have HI6' : RI (zs.drop ((gone + M) / 8)) ((gone + M) % 8) L (n + M) ∧ L.length ≤ 8 * lenS F (i + 1) := ⟨HRI.out.1.pass M HM.out, by have := HRI.out.2.1; have := HLS.out.1; omega⟩
        generalize zs.drop ((gone + M) / 8) = z6 at *
        generalize (gone + M) % 8 = o6 at *
        generalize n + M = n6 at *
        obtain ⟨g6, hg6e⟩ : ∃ g6, g6 = g := ⟨_, rfl⟩
        obtain ⟨gl6, hgl6e⟩ : ∃ gl6, gl6 = gl := ⟨_, rfl⟩
        obtain ⟨L6, hL6e⟩ : ∃ L6, L6 = L := ⟨_, rfl⟩
        rw [← hg6e, ← hgl6e, ← hL6e] at P6
        rw [← hL6e] at HI6'
        have HI6 : Hid (RI z6 o6 L6 n6 ∧ L6.length ≤ 8 * lenS F (i + 1)) := HI6'
        clear HI6' hg6e hgl6e hL6e
        obtain ⟨V6, HC6', HD6'⟩ := have_both HI6.out.1 (by have := HI6.out.2; have := HLS.out.2; omega)
        have HC6 : Hid (∀ r g w, Rd w r g z6 o6 → Calls Try.prog 22 #[.pointer (some ⟨r, 0, none⟩)] w fun e w' => e = .returned (.int .i64 V6) ∧ ∃ q, w' = w.drewN q) := HC6'
        have HD6 : Hid (∀ x g w, RRf w x g L6 n6 → Calls Try.prog 23 #[.pointer (some ⟨x, 0, none⟩)] w fun e w' => e = .returned (.int .i64 V6) ∧ ∃ q, w' = w.drewN q) := HD6'
        clear HC6' HD6'
        have HP6 : Hid (PR w w6 r g6 z6 o6 x gl6 L6 n6) := P6
        clear P6
        go_wp2_with fail
        refine (HC6.out _ _ _ HP6.out.rd).mono ?_
        rintro e w7 ⟨rfl, q7, rfl⟩
        go_wp2_with fail
        refine (HD6.out _ _ _ (HP6.out.rf.drewN q7)).mono ?_
        rintro e w8 ⟨rfl, q8, rfl⟩
        have HP9 : Hid (PR w ((w6.drewN q7).drewN q8) r g6 z6 o6 x gl6 L6 n6) := (HP6.out.drewN q7).drewN q8
        generalize (w6.drewN q7).drewN q8 = w9 at *
        clear HP6 HC6 HD6
        go_wp2
        go_roundw
        case rel => exact ⟨i + 1, by omega, by go_num, g6, z6, o6, gl6, L6, n6, HP9.out, HI6.out.1, HI6.out.2⟩
        case measure => simp [intOf]; omega
      · obtain ⟨M, l, hM, CP', CR'⟩ := bytes_both HRI.out.1 HRI.out.2.2 fn
        have HM : Hid (gone + M ≤ 8 * zs.length) := hM
        have CP : Hid (∀ r g w, Rd w r g zs gone → Calls Try.prog 20 #[.pointer (some ⟨r, 0, none⟩), .int .i64 fn] w fun e w' => ∃ a c, e = .returned (.slice a l.length c) ∧ Row w' a l ∧ (∀ y, a = some y → w.heap.size ≤ y.block) ∧ MP w r g zs gone M w') := CP'
        have CR : Hid (∀ x g w, RRf w x g L n → Calls Try.prog 21 #[.pointer (some ⟨x, 0, none⟩), .int .i64 fn] w fun e w' => ∃ a c, e = .returned (.slice a l.length c) ∧ Row w' a l ∧ MR w x g L n M w') := CR'
        clear hM CP' CR'
        go_wp2
        rw [← HW1.out]
        have hcell : W1.cell? ⟨wr.heap.size, 1, none⟩ = some (.int .i64 fn) := (ask_cells HBX.out).1
        go_region_held3 (fun w' => w'.cell? ⟨wr.heap.size, 1, none⟩ = some (.int .i64 fn)) (assumption) (first
          | (go_at_call 20; refine Calls.mono (CP.out _ _ _ (P1.rd.old ?_)) ?_; exact ⟨rfl, rfl, rfl, Nat.le_refl _, fun _ _ => rfl⟩; rintro e w5 ⟨a5, c5, rfl, rw5, hfr5, hr5, hf5'⟩; have hf5 : Fr W1 w5 r g := ⟨hf5'.os, hf5'.tape, hf5'.output, hf5'.size, hf5'.block⟩; have P5 := P1.first hr5 hf5 (.inl rfl); have hbx5 := hf5.keep HBX.out HNE.out.1 HNE.out.2.2.1; have hq5 : w5.cell? ⟨wr.heap.size, 1, none⟩ = some (.int .i64 fn) := (ask_cells hbx5).1)
          | (go_at_call 21; refine (CR.out _ _ _ P5.rf).mono ?_; rintro e w6p ⟨a6, c6, rfl, rw6, hr6, hf6⟩; have P6 := P5.second hr6 hf6 (.inl rfl); have rw56 := rw5.same (w' := w6p) (fun y hy hz => hf6.block y.block (rw5.lt y hy hz) (fun e => by have h1 : W1.heap.size ≤ y.block := hfr5 y hy; have h2 := P1.rf.lt; omega) (fun e => by have h1 : W1.heap.size ≤ y.block := hfr5 y hy; have h2 := P1.rf.glt e.symm; omega)); have hbx6 := hf6.keep hbx5 HNE.out.2.1 HNE.out.2.2.2; have hq6 : w6p.cell? ⟨wr.heap.size, 1, none⟩ = some (.int .i64 fn) := (ask_cells hbx6).1)
          | (go_at_call 19; refine (same_any a5 a6 _ c5 c6 l _ rfl rw56 rw6).mono ?_; rintro e w6 ⟨rfl, rfl⟩))
        clear hr5 hf5 hf5' P5 hbx5 hq5 hr6 hf6 hbx6 hq6 hcell P1 HBX HW1 q0 q1 q2 CP CR rw5 rw6 rw56 hfr5
        have HI6' : RI (zs.drop ((gone + M) / 8)) ((gone + M) % 8) L (n + M) ∧ L.length ≤ 8 * lenS F (i + 1) := ⟨HRI.out.1.pass M HM.out, by have := HRI.out.2.1; have := HLS.out.1; omega⟩
        generalize zs.drop ((gone + M) / 8) = z6 at *
        generalize (gone + M) % 8 = o6 at *
        generalize n + M = n6 at *
        obtain ⟨g6, hg6e⟩ : ∃ g6, g6 = g := ⟨_, rfl⟩
        obtain ⟨gl6, hgl6e⟩ : ∃ gl6, gl6 = gl := ⟨_, rfl⟩
        obtain ⟨L6, hL6e⟩ : ∃ L6, L6 = L := ⟨_, rfl⟩
        rw [← hg6e, ← hgl6e, ← hL6e] at P6
        rw [← hL6e] at HI6'
        have HI6 : Hid (RI z6 o6 L6 n6 ∧ L6.length ≤ 8 * lenS F (i + 1)) := HI6'
        clear HI6' hg6e hgl6e hL6e
        obtain ⟨V6, HC6', HD6'⟩ := have_both HI6.out.1 (by have := HI6.out.2; have := HLS.out.2; omega)
        have HC6 : Hid (∀ r g w, Rd w r g z6 o6 → Calls Try.prog 22 #[.pointer (some ⟨r, 0, none⟩)] w fun e w' => e = .returned (.int .i64 V6) ∧ ∃ q, w' = w.drewN q) := HC6'
        have HD6 : Hid (∀ x g w, RRf w x g L6 n6 → Calls Try.prog 23 #[.pointer (some ⟨x, 0, none⟩)] w fun e w' => e = .returned (.int .i64 V6) ∧ ∃ q, w' = w.drewN q) := HD6'
        clear HC6' HD6'
        have HP6 : Hid (PR w w6 r g6 z6 o6 x gl6 L6 n6) := P6
        clear P6
        go_wp2_with fail
        refine (HC6.out _ _ _ HP6.out.rd).mono ?_
        rintro e w7 ⟨rfl, q7, rfl⟩
        go_wp2_with fail
        refine (HD6.out _ _ _ (HP6.out.rf.drewN q7)).mono ?_
        rintro e w8 ⟨rfl, q8, rfl⟩
        have HP9 : Hid (PR w ((w6.drewN q7).drewN q8) r g6 z6 o6 x gl6 L6 n6) := (HP6.out.drewN q7).drewN q8
        generalize (w6.drewN q7).drewN q8 = w9 at *
        clear HP6 HC6 HD6
        go_wp2
        go_roundw
        case rel => exact ⟨i + 1, by omega, by go_num, g6, z6, o6, gl6, L6, n6, HP9.out, HI6.out.1, HI6.out.2⟩
        case measure => simp [intOf]; omega
    · have HBL : Hid (Below w.heap.size w wr) := P.bel
      clear P
      go_wp2
      go_ret
      exact ⟨rfl, HBL.out⟩
end Go.Proofs.Ytaenojkgdlpclaa
