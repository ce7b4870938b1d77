/- LZW: the table: first, empty, learn, follow. -/
import Derived.Test.YtcbmlioeeoghkaaLzB
import Derived.Deep.RegionLaw
namespace Go.Proofs.Ytcbmlioeeoghkaa
open Go.RowKit
theorem run_append_ownZ {P : Program} (w : World) (base : Nat) (t ty e : TypeId) (i : TypeInfo) (z : Value) (size bytes : Nat) (ht : P.underlying t = some (.slice e)) (hi : P.info? e = some i) (hz : i.zero = some z)
    (hsize : i.size = size) (hby : i.bytes = bytes) (hzs : z.cells.size = size) (hsz : 0 < size)
    (v : Value) (n : Nat) (xs : List Value) (hown : w.ownsRow base e size v n xs)
    (a : Addr) (m c : Nat) (news : List Value) (hl : news.length = m * size) (hnews : ∀ j u, news[j]? = some u → w.cell? (a.add j) = some u) (h1 : ∀ u ∈ news, u.oneCell' = true)
    (h63 : n + m ≤ maxLen) (hbytes : (n + m) * bytes ≤ 140737488355328) (hbase : base ≤ w.heap.size) :
    ∃ v' w', (Builtin.append_ #[t, t] ty #[v, .slice (some a) m c]).run P w = .ok v' w' ∧ w'.ownsRow base e size v' (n + m) (xs ++ news) ∧ w.grownBy w' v.ownBlock ∧ (v'.ownBlock = v.ownBlock ∨ ∃ k, v'.ownBlock = some k ∧ w.heap.size ≤ k) := by
  obtain ⟨v', w', hr, h2, h3, -⟩ := run_append_own (P := P) w base t ty e i z size bytes ht hi hz hsize hby hzs hsz v n xs hown a m c news hl hnews h1 h63 hbytes hbase
  refine ⟨v', w', hr, h2, h3, ?_⟩
  rcases hown.2 with ⟨rfl, rfl⟩ | ⟨g, cap, cur, rfl, hbg, hg, hnc, hcm, hcs, htake⟩
  · obtain ⟨v2, w2, hr2, h5, -, -⟩ := run_append_own (P := P) w w.heap.size t ty e i z size bytes ht hi hz hsize hby hzs hsz (.slice none 0 0) 0 xs ⟨hown.1, .inl ⟨rfl, rfl⟩⟩ a m c news hl hnews h1 h63 hbytes (Nat.le_refl _)
    rw [hr] at hr2
    injection hr2 with e1 e2
    subst e1 e2
    cases hb : v'.ownBlock with
    | none => exact .inl rfl
    | some k => exact .inr ⟨k, rfl, (h5.lt k hb).1⟩
  · have hsmall : n + m ≤ 9223372036854775807 := by simp only [maxLen] at h63; omega
    subst hsize
    subst hby
    by_cases hroom : n + m ≤ cap
    · have hfit : n * i.size + news.length ≤ cur.size := by rw [hl, hcs, ← Nat.add_mul]; exact Nat.mul_le_mul_right _ hroom
      have hr2 := run_append_room (P := P) w t ty e i ht hi g n cap cur hg a m c news hl hnews h1 hroom hfit
      rw [hr] at hr2
      injection hr2 with e1 e2
      exact .inl (by rw [e1]; rfl)
    · have holds : ∀ j u, xs[j]? = some u → w.cell? ((⟨g, 0, none⟩ : Addr).add j) = some u := hown.cells (g := g) rfl
      have hr2 := run_append_grow (P := P) w t ty e i z ht hi hz ⟨g, 0, none⟩ n cap xs hown.1 holds a m c news hl hnews (by omega) (by omega) (growslice_fits (by omega) hbytes)
      rw [hr] at hr2
      injection hr2 with e1 e2
      exact .inr ⟨w.heap.size, by rw [e1]; rfl, Nat.le_refl _⟩
theorem Try.infoTx : (Try.prog.info? 74).map (fun i => (i.zero, i.size, i.bytes)) = some (some (.agg #[.int .i64 0, .int .u8 0]), 2, 16) := by kernel_rfl
theorem wp_append_ownZ {P : Program} {w : World} {o : Oper} {a : Act} {K : Act → World → Prop} {Q : Exit → Act → World → Prop} (s x : Operand) (t : TypeId)
    (ho : o.op = .call { callee := .builtin .append, args := #[s, x], argTypes := #[t, t] })
    (base : Nat) (e : TypeId) (i : TypeInfo) (z : Value) (size bytes : Nat) (ht : P.underlying t = some (.slice e)) (hi : P.info? e = some i) (hz : i.zero = some z)
    (hsize : i.size = size) (hby : i.bytes = bytes) (hzs : z.cells.size = size) (hsz : 0 < size)
    (v : Value) (n : Nat) (xs : List Value) (hs : a.eval s = v) (hown : w.ownsRow base e size v n xs)
    (ad : Addr) (m c : Nat) (news : List Value) (hx : a.eval x = .slice (some ad) m c) (hl : news.length = m * size) (hnews : ∀ j u, news[j]? = some u → w.cell? (ad.add j) = some u) (h1 : ∀ u ∈ news, u.oneCell' = true)
    (h63 : n + m ≤ maxLen) (hbytes : (n + m) * bytes ≤ 140737488355328) (hbase : base ≤ w.heap.size)
    (h : ∀ v' w', w'.ownsRow base e size v' (n + m) (xs ++ news) → w.grownBy w' v.ownBlock → (v'.ownBlock = v.ownBlock ∨ ∃ k, v'.ownBlock = some k ∧ w.heap.size ≤ k) → K (a.put o.dst v') w') : Oper.wp P o a w K Q := by
  obtain ⟨v', w', hr, h2, h3, h4⟩ := run_append_ownZ (P := P) w base t o.type e i z size bytes ht hi hz hsize hby hzs hsz v n xs hown ad m c news hl hnews h1 h63 hbytes hbase
  unfold Oper.wp execOp
  simp only [ho, resolve, invoke, builtin, Sem.run_bind, Sem.run_pure, Result.andThen_ok, List.map_toArray, List.map_cons, List.map_nil, hs, hx, hr]
  exact h v' w' h2 h3 h4
/-- 'append(further, text)' at a step of a region that draws its order. -/
theorem step_text {w : World} {ops : Array Oper} {o : Oper} {a : Act} {K : Act → World → Prop} {Q : Exit → Act → World → Prop} {E : Prop} (hgd : o.guard = none) (s x : Operand)
    (ho : o.op = .call { callee := .builtin .append, args := #[s, x], argTypes := #[47, 47] })
    (B : Nat) (v : Value) (fs : List Tx) (p : Tx) (hs : a.eval s = v) (hp : TbR w B v fs) (ad : Addr) (c : Nat) (hx : a.eval x = .slice (some ad) 1 c)
    (hr0 : w.cell? (ad.add 0) = some (.int .i64 (p.1 : Int))) (hr1 : w.cell? (ad.add 1) = some (.int .u8 p.2)) (hlen : fs.length ≤ 1000000) (hbase : B ≤ w.heap.size)
    (h : ∀ v' w', TbR w' B v' (fs ++ [p]) → w.grownBy w' v.ownBlock → (v'.ownBlock = v.ownBlock ∨ ∃ k, v'.ownBlock = some k ∧ w.heap.size ≤ k) → K (a.put o.dst v') w') : if Region.wanted o (yielded ops a.tmps) = true then Oper.wp Try.prog o a w K Q else E := by
  have hw : Region.wanted o (yielded ops a.tmps) = true := by simp [Region.wanted, hgd]
  rw [if_pos hw]
  obtain ⟨i0, hi, hz0, hz1, hz2⟩ := info_parts Try.infoTx
  refine wp_append_ownZ s x 47 ho B 74 i0 _ 2 16 Try.underlying47 hi hz0 hz1 hz2 rfl (by decide) v fs.length (encT fs) hs hp ad 1 c [.int .i64 (p.1 : Int), .int .u8 p.2] hx rfl (fun j u hj => ?_) (fun u hu => by simp at hu; rcases hu with rfl | rfl <;> rfl) (by unfold maxLen; omega) (by omega) hbase fun v' w' h2 h3 h4 => h v' w' ?_ h3 h4
  · match j, hj with
    | 0, hj => simp at hj; subst hj; exact hr0
    | 1, hj => simp at hj; subst hj; exact hr1
  · unfold TbR
    rw [encT_app, List.length_append]
    exact h2
theorem TbR.tag {w : World} {B : Nat} {fv : Value} {fs : List Tx} (h : TbR w B fv fs) {k : Nat} (hk : fv.ownBlock = some k) : B ≤ k ∧ ∃ cur, w.heap[k]? = some (.cells cur 74 (0, 0)) := by
  rcases h.2 with ⟨rfl, h0⟩ | ⟨g, cap, cur, rfl, hb, hh, _⟩
  · cases hk
  · cases hk; exact ⟨hb, cur, hh⟩
theorem Dc.neT {w : World} {d : Nat} {L lf er : Int} {dn : Bool} {rv iv : Value} {tl : Int} {fv fw : Value} {ah : Int} {B : Nat} {fs : List Tx} (h : Dc w d L lf er dn rv iv tl fv ah) (ht : TbR w B fw fs) : fw.ownBlock ≠ some d := fun e => by
  obtain ⟨_, cur, hc⟩ := ht.tag e
  unfold Dc at h
  rw [h] at hc; simp at hc
set_option maxRecDepth 100000 in
set_option maxHeartbeats 1600000 in
theorem first_any {w : World} {d B L c0 : Nat} {fv : Value} {fs : List Tx} (h : 2 ≤ L ∧ L ≤ 8) (k6 : w.cell? ⟨d, 6, none⟩ = some (.int .i64 L)) (k7 : w.cell? ⟨d, 7, none⟩ = some fv) (ht : TbR w B fv fs) (hwf : WfT L fs) (hl : fs.length ≤ 4096) (hc : c0 < fcN L + fs.length) :
    Calls Try.prog 58 #[.pointer (some ⟨d, 6, none⟩), .int .i64 c0] w fun e w' => e = .returned (.int .u8 ((fsC L fs c0 : Int) % 256)) ∧ ∃ n, w' = w.drewN n := by
  have HC : Hid (∀ w, Calls Try.prog 49 #[.int .i64 L] w fun e w' => e = .returned (.int .i64 (fcN L : Int)) ∧ w' = w) := fun w => furtherCode_any h w
  have hF : 6 ≤ fcN L ∧ fcN L ≤ 258 := by have := fc_bd h; unfold fcN; omega
  obtain ⟨a, cap, rfl, hlc, hcm, ha, ha0⟩ := ht.shape
  have HT : Hid (TbR w B (.slice a fs.length cap) fs ∧ WfT L fs) := ⟨ht, hwf⟩
  clear ht hwf ha ha0
  unfold maxLen at hcm
  obtain ⟨F, hFe⟩ : ∃ F, fcN L = F := ⟨_, rfl⟩
  have HFe : Hid (fcN L = F) := hFe
  rw [hFe] at hF hc HC
  clear hFe h
  obtain ⟨n, hn⟩ : ∃ n, fs.length = n := ⟨_, rfl⟩
  have Hn : Hid (fs.length = n) := hn
  rw [hn] at hl hc hlc k7 HT
  clear hn
  go_enter Try.func58, Try.ntmps58
  go_wp2
  go_loopw [1, 5, 6, 7, 8, 9, 10, 11, 12, 13, 14, 15, 16, 17, 18, 19, 20, 21, 22, 23, 24, 25] (fun v _ _ _ _ _ _ _ _ _ _ _ _ _ _ _ _ _ _ _ _ _ wr => ∃ c m : Nat, c < F + n ∧ v = .int .i64 (c : Int) ∧ Hid (fsC L fs c = fsC L fs c0) ∧ wr = w.drewN m) (fun v _ _ _ _ _ _ _ _ _ _ _ _ _ _ _ _ _ _ _ _ _ _ => (intOf v).toNat)
  case atStart => exact ⟨c0, 0, hc, rfl, rfl, rfl⟩
  case round =>
    obtain ⟨c, m, hcl, rfl, HE, rfl⟩ := hrel
    have C1 := HC.out (w.drewN m)
    have j6 : (w.drewN m).cell? ⟨d, 6, none⟩ = some (.int .i64 L) := k6
    have j7 : (w.drewN m).cell? ⟨d, 7, none⟩ = some (.slice a n cap) := k7
    by_cases hge : F ≤ c
    · have hgI : (F : Int) ≤ (c : Int) := by omega
      obtain ⟨i, hi⟩ : ∃ i, c = F + i := ⟨c - F, by omega⟩
      have hat := HT.out.2.at (by rw [HFe.out]; exact hge) (by rw [HFe.out, Hn.out]; exact hcl)
      have hst := fsC_step HT.out.2 (c := c) (by rw [HFe.out]; exact hge) (by rw [HFe.out, Hn.out]; exact hcl)
      obtain ⟨q, hq⟩ : ∃ q, nxC L fs c = q := ⟨_, rfl⟩
      rw [hq] at hat hst
      have hcell := HT.out.1
      rw [← Hn.out] at hcell
      obtain ⟨g, hag, hc1, -⟩ := hcell.cell hat.2.2.2
      have hci : c - fcN L = i := by rw [HFe.out]; omega
      rw [hci] at hc1
      have e1 : w.cell? ⟨g, i * 2, none⟩ = some (.int .i64 (q : Int)) := hc1
      have hqc : q < c := hat.1
      have HE2 : Hid (fsC L fs q = fsC L fs c0) := hst.symm.trans HE.out
      have C2 := HC.out (w.drewN m).drew
      subst hag
      have d6 : (w.drewN m).drew.cell? ⟨d, 6, none⟩ = some (.int .i64 L) := k6
      have d7 : (w.drewN m).drew.cell? ⟨d, 7, none⟩ = some (.slice (some ⟨g, 0, none⟩) n cap) := k7
      have hw1 : IntKind.i64.wrap ((c : Int) - (F : Int)) = (i : Int) := by rw [IntKind.wrap_i64]; omega
      have hin : (i : Int) < (n : Int) := by omega
      have hi0 : (0 : Int) ≤ (i : Int) := by omega
      clear hat hst hcell hc1 hci hq HE HC hi hge
      go_upto_region 2 with (refine C1.mono ?_; rintro e w' ⟨rfl, rfl⟩)
      refine wp_region_still_tail 14 (by kernel_rfl) (by kernel_rfl) ?_
      simp only [List.take_succ_cons, List.take_zero, List.drop_succ_cons, List.drop_zero]
      rw [show ({ (w.drewN m) with drawn := (w.drewN m).drawn + 1 } : World) = (w.drewN m).drew from rfl]
      iterate 9 still_step
      still_call C2
      repeat still_step
      refine wpStill_nil ?_
      go_wp2
      go_roundw
      case rel => exact ⟨q, m + 1, by omega, rfl, HE2, rfl⟩
      case measure => simp [intOf]; omega
    · have hgI : ¬ (F : Int) ≤ (c : Int) := by omega
      have HR : Hid (fsC L fs c0 = c) := by rw [← HE.out]; exact fsC_root (by rw [HFe.out]; omega)
      clear HC HE HT
      go_wp2_with fail
      refine C1.mono ?_
      rintro e w' ⟨rfl, rfl⟩
      go_wp2
      go_ret
      refine ⟨?_, m, rfl⟩
      rw [HR.out]
      simp
end Go.Proofs.Ytcbmlioeeoghkaa
