import Derived.Test.YtgihdchgdejkhaaGreatDoorVC
import Derived.BigQuiet
namespace Go.Proofs.YtgihdchgdejkhaaGreatDoor
open Go.RowKit Go.Shelf H
set_option linter.unusedVariables false

/-- A token's five cells. -/
structure Cet (w : World) (b o : Nat) (c : Tok) : Prop where
  c0 : w.cell? ⟨b, o, none⟩ = some (.int .i64 c.1.1)
  c1 : w.cell? ⟨b, o + 1, none⟩ = some (.int .u64 (c.1.2.1 : Int))
  c2 : w.cell? ⟨b, o + 2, none⟩ = some (.int .u64 (c.1.2.2 : Int))
  c3 : w.cell? ⟨b, o + 3, none⟩ = some (.int .i64 c.2.1)
  c4 : w.cell? ⟨b, o + 4, none⟩ = some (.int .i64 c.2.2)
theorem Cet.but {S : Nat → Prop} {w w' : World} {b o : Nat} {c : Tok} (hb : But S w w') (h : Cet w b o c) (hn : ¬ S b) : Cet w' b o c := ⟨cell_but hb h.c0 hn, cell_but hb h.c1 hn, cell_but hb h.c2 hn, cell_but hb h.c3 hn, cell_but hb h.c4 hn⟩
theorem Cet.later {w w' : World} {b o : Nat} {c : Tok} (h : Cet w b o c) (hb : Below w.heap.size w w') : Cet w' b o c := h.but (S := fun _ => False) (But.of hb) (fun h => h)
/-- What a list of tokens reads. -/
structure Rt (w : World) (a : Option Addr) (n : Nat) (K : List Tok) : Prop where
  len : K.length = n
  at_ : 0 < n → ∃ b o, a = some ⟨b, o, none⟩ ∧ ∀ (i : Nat) (c : Tok), K[i]? = some c → Cet w b (o + i * 5) c
theorem Rt.but {S : Nat → Prop} {w w' : World} {a : Option Addr} {n : Nat} {K : List Tok} (h : Rt w a n K) (hb : But S w w') (hn : ∀ k, Blk a k → ¬ S k) : Rt w' a n K :=
  ⟨h.len, fun h0 => by
    obtain ⟨b, o, e, hc⟩ := h.at_ h0
    exact ⟨b, o, e, fun i c hi => (hc i c hi).but hb (hn b ⟨_, e, rfl⟩)⟩⟩
theorem Rt.later {w w' : World} {a : Option Addr} {n : Nat} {K : List Tok} (h : Rt w a n K) (hb : Below w.heap.size w w') : Rt w' a n K := h.but (S := fun _ => False) (But.of hb) (fun _ _ h => h)
theorem Ow.at_ {w : World} {base : Nat} {e : TypeId} {k : Nat} {a : Option Addr} {n cap : Nat} {L : List Value} (h : Ow w base e k a n cap L) (hn : 0 < n) : ∃ b, a = some ⟨b, 0, none⟩ ∧ ∀ j u, L[j]? = some u → w.cell? ⟨b, j, none⟩ = some u := by
  rcases h.2 with ⟨_, h1⟩ | ⟨g, c, cur, hv, _⟩
  · omega
  · simp only [Value.slice.injEq] at hv
    refine ⟨g, hv.1, fun j u hu => ?_⟩
    have h' := h
    rw [Ow, hv.1] at h'
    have := World.ownsRow.cells (g := g) h' rfl j u hu
    rwa [addr_add0] at this
/-- Are tokens the same? -/
def tEq (a b c d e a' b' c' d' e' : Int) : Bool := decide (a = a' ∧ b = b' ∧ c = c' ∧ d = d' ∧ e = e')
theorem neqT (a b c d e a' b' c' d' e' : Int) (w : World) : (binOp .neq 55 (.agg #[.int .i64 a, .int .u64 b, .int .u64 c, .int .i64 d, .int .i64 e]) (.agg #[.int .i64 a', .int .u64 b', .int .u64 c', .int .i64 d', .int .i64 e'])).run Tryz.prog w = .ok (.bool (!tEq a b c d e a' b' c' d' e')) w := by
  unfold tEq
  by_cases h1 : a = a'
  · subst h1
    by_cases h2 : b = b'
    · subst h2
      by_cases h3 : c = c'
      · subst h3
        by_cases h4 : d = d'
        · subst h4
          by_cases h5 : e = e'
          · subst h5; simp [go_sem]
          · simp [go_sem, h5]
        · simp [go_sem, h4]
      · simp [go_sem, h3]
    · simp [go_sem, h2]
  · simp [go_sem, h1]
def SameRelT (w : World) (n : Nat) (K M : List Tok) (t : Value) (w' : World) : Prop :=
  ∃ i : Nat, i ≤ n ∧ t = .int .i64 (i : Int) ∧ (∀ j, j < i → K[j]? = M[j]?) ∧ ∃ q, w' = w.drewN q
set_option maxRecDepth 100000 in
set_option maxHeartbeats 1000000 in
theorem sameT_any {w : World} {a b : Option Addr} {n m : Nat} {K M : List Tok} (ca cb : Nat) (h : Rt w a n K) (k : Rt w b m M) (hn : n ≤ 140737488355328) (hm : m ≤ 140737488355328) :
    Calls Tryz.prog 16 #[.slice a n ca, .slice b m cb] w fun e w' => e = .returned (.bool (decide (K = M))) ∧ ∃ q, w' = w.drewN q := by
  have hl1 := h.len
  have hl2 := k.len
  have HH := hid h
  have HK := hid k
  clear h k
  by_cases hne : n = m
  · subst hne
    go_enter Tryz.func16, Tryz.ntmps16
    go_wp2
    go_loopw [5] (SameRelT w n K M) (fun t _ => n - (intOf t).toNat)
    case atStart => exact ⟨0, Nat.zero_le _, rfl, fun j hj => absurd hj (Nat.not_lt_zero _), 0, rfl⟩
    case round =>
      obtain ⟨i, hi, rfl, heq, q, rfl⟩ := hrel
      have HE := hid heq
      clear heq
      by_cases hlt : i < n
      · obtain ⟨b1, o1, rfl, hc1⟩ := HH.out.at_ (by omega)
        obtain ⟨b2, o2, rfl, hc2⟩ := HK.out.at_ (by omega)
        obtain ⟨c, hc⟩ : ∃ c, K[i]? = some c := ⟨_, List.getElem?_eq_getElem (by omega)⟩
        obtain ⟨d, hd⟩ : ∃ d, M[i]? = some d := ⟨_, List.getElem?_eq_getElem (by omega)⟩
        obtain ⟨x0, x1, x2, x3, x4⟩ := (hc1 i c hc).later (below_drewN (Below.refl w.heap.size w) q)
        obtain ⟨y0, y1, y2, y3, y4⟩ := (hc2 i d hd).later (below_drewN (Below.refl w.heap.size w) q)
        have HC := hid hc
        have HD := hid hd
        clear hc1 hc2 hc hd
        by_cases hcd : c = d
        · have hq1 : tEq c.1.1 (c.1.2.1 : Int) (c.1.2.2 : Int) c.2.1 c.2.2 d.1.1 (d.1.2.1 : Int) (d.1.2.2 : Int) d.2.1 d.2.2 = true := by subst hcd; simp [tEq]
          have heq := fun W => neqT c.1.1 (c.1.2.1 : Int) (c.1.2.2 : Int) c.2.1 c.2.2 d.1.1 (d.1.2.1 : Int) (d.1.2.2 : Int) d.2.1 d.2.2 W
          simp only [hq1] at heq
          have HCD := hid hcd
          clear hcd
          generalize hwq : w.drewN q = wq at *
          have HWQ := hid hwq
          clear hwq
          go_upto_region 6 with fail
          go_quiet (fail)
          go_wp2
          refine ⟨⟨i + 1, by omega, by go_num, fun j hj => ?_, q + nq, by rw [← HWQ.out]; simp [World.drewN, Nat.add_assoc]⟩, by simp [intOf]; omega⟩
          rcases Nat.lt_or_ge j i with h3 | h3
          · exact HE.out j h3
          · obtain rfl : j = i := by omega
            rw [HC.out, HD.out, HCD.out]
        · have hq1 : tEq c.1.1 (c.1.2.1 : Int) (c.1.2.2 : Int) c.2.1 c.2.2 d.1.1 (d.1.2.1 : Int) (d.1.2.2 : Int) d.2.1 d.2.2 = false := by
            refine decide_eq_false fun hq => hcd ?_
            obtain ⟨q1, q2, q3, q4, q5⟩ := hq
            exact Prod.ext (Prod.ext q1 (Prod.ext (Int.ofNat.inj q2) (Int.ofNat.inj q3))) (Prod.ext q4 q5)
          have heq := fun W => neqT c.1.1 (c.1.2.1 : Int) (c.1.2.2 : Int) c.2.1 c.2.2 d.1.1 (d.1.2.1 : Int) (d.1.2.2 : Int) d.2.1 d.2.2 W
          simp only [hq1] at heq
          have HF : Hid (decide (K = M) = false) := decide_eq_false (fun e => by
            subst e
            have := HC.out.symm.trans HD.out
            exact hcd (Option.some.inj this))
          clear hcd
          generalize hwq : w.drewN q = wq at *
          have HWQ := hid hwq
          clear hwq
          go_upto_region 6 with fail
          go_quiet (fail)
          go_wp2
          go_ret
          exact ⟨ret_bool HF.out.symm, q + nq, by rw [← HWQ.out]; simp [World.drewN, Nat.add_assoc]⟩
      · obtain rfl : i = n := by omega
        have HT : Hid (decide (K = M) = true) := decide_eq_true (by
          apply List.ext_getElem?
          intro j
          rcases Nat.lt_or_ge j i with h3 | h3
          · exact HE.out j h3
          · rw [List.getElem?_eq_none (by omega), List.getElem?_eq_none (by omega)])
        go_wp2
        go_ret
        exact ⟨ret_bool HT.out.symm, q, rfl⟩
  · have HF : Hid (decide (K = M) = false) := decide_eq_false (fun e => by subst e; omega)
    have hn1 : ((n : Int) != (m : Int)) = true := by simp; omega
    go_enter Tryz.func16, Tryz.ntmps16
    go_wp2
    go_ret
    exact ⟨ret_bool HF.out.symm, 0, rfl⟩

/-- n brought into 0 to t - 1. -/
def intoN (x : Int) (t : Nat) : Nat := (if x.tmod t < 0 then x.tmod t + t else x.tmod t).toNat
theorem tmod_in (x : Int) (t : Nat) (ht : 0 < t) : -(t : Int) < x.tmod t ∧ x.tmod t < t := by
  have h2 := Int.tmod_eq_emod (a := x) (b := (t : Int))
  have h3 := Int.emod_nonneg x (show (t : Int) ≠ 0 by omega)
  have h4 := Int.emod_lt_of_pos x (show 0 < (t : Int) by omega)
  rw [h2]
  split
  · simp; omega
  · next hc =>
    have hd : ¬ (t : Int) ∣ x := fun h => hc (.inr h)
    have : x % (t : Int) ≠ 0 := fun h => hd (Int.dvd_of_emod_eq_zero h)
    simp
    omega
theorem intoN_lt (x : Int) {t : Nat} (ht : 0 < t) : intoN x t < t := by
  have := tmod_in x t ht
  unfold intoN
  split <;> omega
theorem into_any (x : Int) (t : Nat) (w : World) (ht : 0 < t) (h2 : t ≤ 1024) :
    Calls Tryz.prog 8 #[.int .i64 x, .int .i64 (t : Int)] w fun e w' => e = .returned (.int .i64 (intoN x t : Int)) ∧ w' = w := by
  obtain ⟨hr1, hr2⟩ := tmod_in x t ht
  have ht0 : ¬ ((t : Int) = 0) := by omega
  have ht1 : ¬ (t = 0) := by omega
  by_cases hc : x.tmod t < 0
  · have HV : Hid (x.tmod t + t = (intoN x t : Int)) := by unfold Hid intoN; rw [if_pos hc]; omega
    go_enter Tryz.func8, Tryz.ntmps8
    go_wp2
    go_ret
    exact ⟨ret_int HV.out, rfl⟩
  · have HV : Hid (x.tmod t = (intoN x t : Int)) := by unfold Hid intoN; rw [if_neg hc]; omega
    go_enter Tryz.func8, Tryz.ntmps8
    go_wp2
    go_ret
    exact ⟨ret_int HV.out, rfl⟩

/-! ### Of at rest -/
def rootOf (X : List Tk) (l : Fo) (o : Int) : Option Int := (nums l).find? (fun n => decide ((n, -1) ∈ l ∧ ob X n = o))
theorem rootOf_some {m : Nat} {X : List Tk} {l : Fo} (h : Inv m X l) {r : Int} (hr : (r, -1) ∈ l) : rootOf X l (ob X r) = some r := by
  unfold rootOf
  cases hf : (nums l).find? (fun n => decide ((n, -1) ∈ l ∧ ob X n = ob X r)) with
  | none => have := List.find?_eq_none.1 hf r (mem_nums.2 ⟨_, hr⟩); simp [hr] at this
  | some k =>
    have h0 := List.find?_some hf
    simp only [decide_eq_true_eq] at h0
    rw [h.root k r h0.1 hr h0.2]
theorem rootOf_none {X : List Tk} {l : Fo} {o : Int} (h : ∀ r, (r, -1) ∈ l → ob X r ≠ o) : rootOf X l o = none := by
  unfold rootOf
  refine List.find?_eq_none.2 (fun n _ hd => ?_)
  have := of_decide_eq_true hd
  exact h n this.1 this.2
def ofL (mo : Nat) (X : List Tk) (l : Fo) (o : Int) : List Tok := match rootOf X l o with
  | some r => (ofF X l mo (G true l r)).2
  | none => []
set_option maxRecDepth 100000 in
set_option maxHeartbeats 1000000 in
theorem of_none {w : World} {A : Ad} {kn mo : Nat} {T : List (Cp × Int)} {X : List Tk} {l : Fo} (h : Cm w A kn mo T X l) (o : Int) (hr : ∀ (W : World), Below w.heap.size w W → Calls Tryz.prog 29 #[.pointer (some ⟨A.g, 0, none⟩), .int .i64 o] W fun e w' => e = .returned (.tuple #[.int .i64 0, .bool false]) ∧ Below W.heap.size W w') :
    Calls Tryz.prog 14 #[.pointer (some ⟨A.g, 0, none⟩), .int .i64 o] w fun e w' => e = .returned (.slice none 0 0) ∧ Below w.heap.size w w' := by
  obtain ⟨w0, hw0⟩ : ∃ w0, w0 = w.alloc (Obj.cells #[.pointer (some ⟨A.g, 0, none⟩)] 41) := ⟨_, rfl⟩
  have hB0 : Below w.heap.size w w0 := by rw [hw0]; exact below1 _ _
  have z0 : w0.cell? ⟨w.heap.size, 0, none⟩ = some (.pointer (some ⟨A.g, 0, none⟩)) := by rw [hw0]; simp [go_sem]
  have hh := hid (hr w0 hB0)
  have HB0 := hid hB0
  clear h hB0 hr
  go_enter Tryz.func14, Tryz.ntmps14
  go_upto_region 1 with fail
  rw [← hw0]
  clear hw0
  go_wp2_with (first | (go_at_call 29; refine hh.out.mono ?_; rintro e w9 ⟨rfl, hb⟩; have HB := hid (below_call HB0.out hb); clear hb))
  go_ret
  exact ⟨rfl, HB.out⟩
theorem cof_any {w : World} {A : Ad} {kn mo : Nat} {X : List Tk} {l : Fo} (h : Cat w A kn mo X l) (o : Int) :
    Calls Tryz.prog 14 #[.pointer (some ⟨A.g, 0, none⟩), .int .i64 o] w fun e w' => ∃ a c, e = .returned (.slice a (ofL mo X l o).length c) ∧ Ow w' w.heap.size 55 5 a (ofL mo X l o).length c (toks (ofL mo X l o)) ∧ Below w.heap.size w w' := by
  have hcr := fun (W : World) (hW : Below w.heap.size w W) => croot_any (h.cm.later hW) o
  by_cases hr : ∃ r, (r, -1) ∈ l ∧ ob X r = o
  · obtain ⟨r, h1, h2⟩ := hr
    have e1 : ofL mo X l o = (ofF X l mo (G true l r)).2 := by unfold ofL; rw [← h2, rootOf_some h.inv h1]
    have e2 : (ofL mo X l o).length = (G true l r).length := by rw [e1, ofF_len2]
    rw [e2, e1]
    refine of_ok h.cm o (fun W hW => (hcr W hW).mono ?_)
    rintro e w' ⟨⟨s, h3, h4, he⟩ | ⟨h3, he⟩, hb⟩
    · rw [h.inv.root r s h1 h3 (by rw [h2, h4])]
      exact ⟨he, hb⟩
    · exact absurd h2 (h3 r h1)
  · have hn : ∀ r, (r, -1) ∈ l → ob X r ≠ o := fun r h1 h2 => hr ⟨r, h1, h2⟩
    have e1 : ofL mo X l o = [] := by unfold ofL; rw [rootOf_none hn]
    rw [e1]
    refine (of_none h.cm o (fun W hW => (hcr W hW).mono ?_)).mono (fun e w' he => ⟨none, 0, he.1, Ow.nil _ _ _ _, he.2⟩)
    rintro e w' ⟨⟨s, h3, h4, he⟩ | ⟨h3, he⟩, hb⟩
    · exact absurd h4 (hn s h3)
    · exact ⟨he, hb⟩
/-- What Of's list is: in Down's order, each behind its parent. -/
theorem ofF_spec {m : Nat} {X : List Tk} {l : Fo} (h : Ok m l) {r : Int} (hr : (r, -1) ∈ l) : ∀ i, i ≤ (G true l r).length →
    (∀ (j : Nat) (x : Int), j < i → (G true l r)[j]? = some x → (ofF X l m ((G true l r).take i)).1[x.toNat]? = some (j : Int)) ∧
    (∀ (j : Nat) (x : Int), j < i → (G true l r)[j]? = some x → ∃ q : Int, (ofF X l m ((G true l r).take i)).2[j]? = some ((tk X x).1, rg X x, q) ∧ ((j = 0 ∧ q = -1 ∧ par l x = -1) ∨ (0 < j ∧ ∃ p : Nat, p < j ∧ q = (p : Int) ∧ (G true l r)[p]? = some (par l x)))) := by
  have hnd := G_nodup h true r
  have hnn : ∀ x ∈ G true l r, 0 ≤ x ∧ x < (m : Int) := fun x hx => h.range x (G_nums h hx)
  intro i
  induction i with
  | zero => exact fun _ => ⟨fun j x hj => by omega, fun j x hj => by omega⟩
  | succ i ih =>
    intro hi
    obtain ⟨ih1, ih2⟩ := ih (by omega)
    have hs : (G true l r).take (i + 1) = (G true l r).take i ++ [(G true l r)[i]] := take_step _ i (by omega)
    obtain ⟨y, hy⟩ : ∃ y, y = (G true l r)[i] := ⟨_, rfl⟩
    have hyi : (G true l r)[i]? = some y := by rw [hy]; exact List.getElem?_eq_getElem (by omega)
    have hym : y ∈ G true l r := List.mem_of_getElem? hyi
    rw [hs, ← hy, ofF_snoc]
    have hl1 := ofF_len1 X l m ((G true l r).take i)
    have hl2 := ofF_len2 X l m ((G true l r).take i)
    rw [List.length_take_of_le (by omega)] at hl2
    refine ⟨fun j x hj hx => ?_, fun j x hj hx => ?_⟩
    · show ((ofF X l m ((G true l r).take i)).1.set y.toNat _)[x.toNat]? = _
      by_cases e : j = i
      · subst e
        rw [hyi] at hx
        cases hx
        have := hnn y hym
        rw [hl2, List.getElem?_set_self (by omega)]
      · have hxm := List.mem_of_getElem? hx
        have hne : y.toNat ≠ x.toNat := fun e2 => by
          have h1 := hnn y hym
          have h2 := hnn x hxm
          have e3 : y = x := by omega
          rw [e3] at hyi
          exact e (nd_idx hnd hx hyi)
        rw [List.getElem?_set_ne hne]
        exact ih1 j x (by omega) hx
    · show ∃ q : Int, ((ofF X l m ((G true l r).take i)).2 ++ [_])[j]? = _ ∧ _
      by_cases e : j = i
      · subst e
        rw [hyi] at hx
        cases hx
        refine ⟨_, by rw [List.getElem?_append_right (by omega), hl2, Nat.sub_self]; rfl, ?_⟩
        by_cases h0 : j = 0
        · subst h0
          have hG := G_eq h (e := true) (mem_nums.2 ⟨_, hr⟩)
          have : y = r := by rw [hG] at hyi; simpa using hyi.symm
          subst this
          have hp := par_eq h hr
          exact .inl ⟨rfl, by rw [if_pos hp], hp⟩
        · have hb := G_behind h (by omega) hyi
          obtain ⟨p, hp⟩ := List.getElem?_of_mem hb
          have hpl : p < j := by
            have := (List.getElem?_eq_some_iff.1 hp).1
            rw [List.length_take] at this
            omega
          rw [List.getElem?_take_of_lt hpl] at hp
          have hpn := hnn _ (List.mem_of_getElem? hp)
          refine .inr ⟨by omega, p, hpl, ?_, hp⟩
          rw [if_neg (by omega), ih1 p _ hpl hp]
          rfl
      · obtain ⟨q, h1, h2⟩ := ih2 j x (by omega) hx
        exact ⟨q, by rw [List.getElem?_append_left (by omega)]; exact h1, h2⟩
end Go.Proofs.YtgihdchgdejkhaaGreatDoor
