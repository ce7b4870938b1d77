import Derived.Test.YthoandjljgkcbaaPuts2
namespace Go.Proofs.Ythoandjljgkcbaa
open Go.RowKit

/-- 'append(xs, ys...)': xs the call's own, ys bytes that lie in memory (nil too). -/
theorem wpList_append_row {w : World} {ops : Array Oper} {rest : List Oper} {o : Oper} {a : Act} {Q : Exit → Act → World → Prop} (hgd : o.guard = none) (s x : Operand)
    (ho : o.op = .call { callee := .builtin .append, args := #[s, x], argTypes := #[22, 22] })
    (base : Nat) (v : Value) (n : Nat) (xs : List Int) (hs : a.eval s = v) (hown : w.ownsRow base 5 1 v n (vals xs))
    (ad : Option Addr) (m c : Nat) (l : List Int) (hx : a.eval x = .slice ad m c) (hm : l.length = m) (hc : ad = none → c = 0) (hr : Row w ad l)
    (hsum : n + m ≤ 140737488355328) (hbase : base ≤ w.heap.size)
    (h : ∀ v' w', w'.ownsRow base 5 1 v' (n + m) (vals (xs ++ l)) → w.grownBy w' v.ownBlock → wpList Try.prog ops Q rest (a.put o.dst v') w') : wpList Try.prog ops Q (o :: rest) a w := by
  obtain ⟨i0, hi, hz0, hz1, hz2⟩ := info_parts Try.info5
  cases ad with
  | none =>
    have h0 : l = [] := by
      rcases hr with h | ⟨b, off, h, _⟩
      · exact h
      · cases h
    subst h0
    have hc0 := hc rfl
    simp at hm
    subst hm hc0
    refine wpList_append_own_none hgd s x _ ho base 5 i0 1 Try.underlying22 hi v n (vals xs) hs hown hx (h v w ?_ (grownBy_refl _ _))
    rw [List.append_nil]; exact hown
  | some y =>
    refine wpList_append_own w hgd s x _ ho base 5 i0 (.int .u8 0) 1 1 Try.underlying22 hi hz0 hz1 hz2 rfl (by decide) v n (vals xs) hs hown y m c (vals l) hx (by simp [vals]; omega) (news_row hr) (vals_one l) (by unfold maxLen; omega) (by omega) hbase ?_
    intro v' w' h1 h2 _
    exact h v' w' (by rw [vals_append]; exact h1) h2

def BytesPost (w : World) (c U : Nat) (l zs : List Int) (err : Int) (e : Ending) (w' : World) : Prop :=
  ∃ a cap, e = .returned (.slice a l.length cap) ∧ l.length ≤ cap ∧ cap ≤ maxLen ∧ (a = none → cap = 0) ∧ Row w' a l ∧ Cur w' c U zs err ∧ w.grownBy w' (some c)
def bytL (zs : List Int) (n : Int) : List Int := if n < 0 then [] else nextL zs n
def bytZ (zs : List Int) (err n : Int) : List Int := if n < 0 then failZ zs err 1 else nextZ zs err n
def bytE (zs : List Int) (err n : Int) : Int := if n < 0 then failE err 1 else nextE zs err n

theorem nil_cap {w : World} {base e : Nat} {v : Value} {n : Nat} {xs : List Value} (h : w.ownsRow base e 1 v n xs) {a : Option Addr} {m cap : Nat} (hv : v = .slice a m cap) : a = none → cap = 0 := by
  rintro rfl
  subst hv
  rcases h.2 with ⟨h, _⟩ | ⟨g, cap', cur, h, _⟩
  · simp at h; exact h.2
  · simp at h

set_option maxHeartbeats 800000 in
theorem cbytes_any (c U : Nat) (zs : List Int) (err n : Int) (w : World) (h : Cur w c U zs err) (hl : zs.length ≤ 140737488351232) :
    Calls Try.prog 24 #[.pointer (some ⟨c, 0, none⟩), .int .i64 n] w fun e w' => BytesPost w c U (bytL zs n) (bytZ zs err n) (bytE zs err n) e w' := by
  by_cases h1 : n < 0
  · have F := fail_any c U zs err 1 w h
    have e1 : bytL zs n = [] := if_pos h1
    have e2 : bytZ zs err n = failZ zs err 1 := if_pos h1
    have e3 : bytE zs err n = failE err 1 := if_pos h1
    rw [e1, e2, e3]
    clear e1 e2 e3 h
    go_enter Try.func24, Try.ntmps24
    go_wp2_with (go_at_call 26; refine F.mono ?_; rintro e w' ⟨rfl, hc, hg⟩)
    go_ret
    unfold BytesPost
    exact ⟨none, 0, rfl, Nat.le_refl _, by unfold maxLen; omega, fun _ => rfl, .inl rfl, hc, hg⟩
  · have E := next_any c U zs err n w h (by omega)
    have e1 : bytL zs n = nextL zs n := if_neg h1
    have e2 : bytZ zs err n = nextZ zs err n := if_neg h1
    have e3 : bytE zs err n = nextE zs err n := if_neg h1
    have hlen : (nextL zs n).length ≤ zs.length := by
      unfold nextL
      by_cases h2 : (zs.length : Int) < n
      · rw [if_pos h2]; simp
      · rw [if_neg h2]; simp; omega
    have h2 : 0 ≤ n := by omega
    rw [e1, e2, e3]
    clear e1 e2 e3 h h1
    generalize nextL zs n = l at *
    generalize nextZ zs err n = z at *
    generalize nextE zs err n = r at *
    go_enter Try.func24, Try.ntmps24
    go_wp2_with fail
    refine E.mono ?_
    rintro e w1 ⟨a, cap, rfl, g1, g2, g3, g4, g5, g6⟩
    clear E
    go_wp2_with (at_builtin; refine wpList_append_row rfl _ _ rfl w1.heap.size _ 0 [] rfl (World.ownsRow_nil _ _ _ _) a l.length cap l rfl rfl g3 g4 (by omega) (Nat.le_refl _) ?_)
    intro v' w2 hown hgrow
    obtain ⟨a', cap', hv, hl', f1, f2, f3⟩ := row_of_owns hown
    have hnc := nil_cap hown hv
    have hb2 : Below w1.heap.size w1 w2 := (Below.refl _ _).grown hgrow (Nat.le_refl _) (fun k hk => by cases hk)
    clear hown hgrow hl'
    rw [hv]
    clear hv
    have g5' := g5.below hb2
    have hg := grownBy_trans g6 (grownBy_of_below hb2 (some c))
    clear g5 g4 g6 hb2
    go_wp2
    go_ret
    unfold BytesPost
    exact ⟨a', cap', rfl, f1, f2, hnc, f3, g5', hg⟩
end Go.Proofs.Ythoandjljgkcbaa
