import Derived.Test.YtlelglfdamakaaaMY
import Derived.BigQuiet
namespace Go.Proofs.Ytlelglfdamakaaa
open Go.RowKit Go.Shelf H
set_option linter.unusedVariables false
attribute [local go_sem] Oper.semAt_some

set_option maxRecDepth 100000 in
set_option maxHeartbeats 1000000 in
theorem drop_bad {w : World} {A : Ad} {kn mo : Nat} {X : List Tk} {l : Fo} (h : Cat w A kn mo X l) (n : Int) (hn : n ∉ nums l) :
    Calls Try.prog 13 #[.pointer (some ⟨A.g, 0, none⟩), .int .i64 n] w fun e w' => e = .returned (.tuple #[.slice none 0 0, .int .i64 20]) ∧ Below w.heap.size w w' := by
  obtain ⟨w0, hw0⟩ : ∃ w0, w0 = w.alloc (Obj.cells #[.pointer (some ⟨A.g, 0, none⟩)] 35) := ⟨_, rfl⟩
  have hB0 : Below w.heap.size w w0 := by rw [hw0]; exact below1 _ _
  have z0 : w0.cell? ⟨w.heap.size, 0, none⟩ = some (.pointer (some ⟨A.g, 0, none⟩)) := by rw [hw0]; simp [go_sem]
  have hh := hid (chas_any (h.cm.later hB0) n)
  rw [decide_eq_false hn] at hh
  have HB0 := hid hB0
  clear h hB0
  go_enter Try.func13, Try.ntmps13
  go_upto_region 1 with fail
  rw [← hw0]
  clear hw0
  go_wp2_with (first | (go_at_call 36; refine hh.out.mono ?_; rintro e w9 ⟨rfl, hw9⟩; obtain rfl := hw9.symm; clear hw9))
  exact bodyPost_ret (v := .tuple #[.slice none 0 0, .int .i64 20]) (by simp [results, Try.results13, go_sem]) rfl ⟨rfl, HB0.out⟩

/-! ### Of -/
end Go.Proofs.Ytlelglfdamakaaa
namespace Go.Proofs.Ytlelglfdamakaaa
open Go.RowKit Go.Shelf H
set_option linter.unusedVariables false

/-- A capability's three cells. -/
structure Cel (w : World) (b o : Nat) (c : Cp) : Prop where
  c0 : w.cell? ⟨b, o, none⟩ = some (.int .i64 c.1)
  c1 : w.cell? ⟨b, o + 1, none⟩ = some (.int .u64 (c.2.1 : Int))
  c2 : w.cell? ⟨b, o + 2, none⟩ = some (.int .u64 (c.2.2 : Int))
theorem Cel.but {S : Nat → Prop} {w w' : World} {b o : Nat} {c : Cp} (hb : But S w w') (h : Cel w b o c) (hn : ¬ S b) : Cel w' b o c := ⟨cell_but hb h.c0 hn, cell_but hb h.c1 hn, cell_but hb h.c2 hn⟩
theorem Cel.later {w w' : World} {b o : Nat} {c : Cp} (h : Cel w b o c) (hb : Below w.heap.size w w') : Cel w' b o c := h.but (S := fun _ => False) (But.of hb) (fun h => h)
/-- What a list of capabilities reads. -/
structure Rd (w : World) (a : Option Addr) (n : Nat) (K : List Cp) : Prop where
  len : K.length = n
  at_ : 0 < n → ∃ b o, a = some ⟨b, o, none⟩ ∧ ∀ (i : Nat) (c : Cp), K[i]? = some c → Cel w b (o + i * 3) c
theorem Rd.but {S : Nat → Prop} {w w' : World} {a : Option Addr} {n : Nat} {K : List Cp} (h : Rd w a n K) (hb : But S w w') (hn : ∀ k, Blk a k → ¬ S k) : Rd w' a n K :=
  ⟨h.len, fun h0 => by
    obtain ⟨b, o, e, hc⟩ := h.at_ h0
    exact ⟨b, o, e, fun i c hi => (hc i c hi).but hb (hn b ⟨_, e, rfl⟩)⟩⟩
theorem Rd.later {w w' : World} {a : Option Addr} {n : Nat} {K : List Cp} (h : Rd w a n K) (hb : Below w.heap.size w w') : Rd w' a n K := h.but (S := fun _ => False) (But.of hb) (fun _ _ h => h)
theorem Ow.at_ {w : World} {base : Nat} {e : TypeId} {k : Nat} {a : Option Addr} {n cap : Nat} {L : List Value} (h : Ow w base e k a n cap L) (hn : 0 < n) : ∃ b, a = some ⟨b, 0, none⟩ ∧ ∀ j u, L[j]? = some u → w.cell? ⟨b, j, none⟩ = some u := by
  rcases h.2 with ⟨_, h1⟩ | ⟨g, c, cur, hv, _⟩
  · omega
  · simp only [Value.slice.injEq] at hv
    refine ⟨g, hv.1, fun j u hu => ?_⟩
    have h' := h
    rw [Ow, hv.1] at h'
    have := World.ownsRow.cells (g := g) h' rfl j u hu
    rwa [addr_add0] at this
def SameRelC (w : World) (n : Nat) (K M : List Cp) (t : Value) (w' : World) : Prop :=
  ∃ i : Nat, i ≤ n ∧ t = .int .i64 (i : Int) ∧ (∀ j, j < i → K[j]? = M[j]?) ∧ ∃ q, w' = w.drewN q
set_option maxRecDepth 100000 in
set_option maxHeartbeats 1000000 in
theorem sameC_any {w : World} {a b : Option Addr} {n m : Nat} {K M : List Cp} (ca cb : Nat) (h : Rd w a n K) (k : Rd w b m M) (hn : n ≤ 140737488355328) (hm : m ≤ 140737488355328) :
    Calls Try.prog 44 #[.slice a n ca, .slice b m cb] w fun e w' => e = .returned (.bool (decide (K = M))) ∧ ∃ q, w' = w.drewN q := by
  have hl1 := h.len
  have hl2 := k.len
  have HH := hid h
  have HK := hid k
  clear h k
  by_cases hne : n = m
  · subst hne
    go_enter Try.func44, Try.ntmps44
    go_wp2
    go_loopw [5] (SameRelC w n K M) (fun t _ => n - (intOf t).toNat)
    case atStart => exact ⟨0, Nat.zero_le _, rfl, fun j hj => absurd hj (Nat.not_lt_zero _), 0, rfl⟩
    case round =>
      obtain ⟨i, hi, rfl, heq, q, rfl⟩ := hrel
      have HE := hid heq
      clear heq
      by_cases hlt : i < n
      · obtain ⟨b1, o1, rfl, hc1⟩ := HH.out.at_ (by omega)
        obtain ⟨b2, o2, rfl, hc2⟩ := HK.out.at_ (by omega)
        obtain ⟨c, hc⟩ : ∃ c, K[i]? = some c := ⟨_, List.getElem?_eq_getElem (by omega)⟩
        obtain ⟨d, hd⟩ : ∃ d, M[i]? = some d := ⟨_, List.getElem?_eq_getElem (by omega)⟩
        obtain ⟨x0, x1, x2⟩ := (hc1 i c hc).later (below_drewN (Below.refl w.heap.size w) q)
        obtain ⟨y0, y1, y2⟩ := (hc2 i d hd).later (below_drewN (Below.refl w.heap.size w) q)
        have HC := hid hc
        have HD := hid hd
        clear hc1 hc2 hc hd
        by_cases hcd : c = d
        · have hq1 : cEq c.1 (c.2.1 : Int) (c.2.2 : Int) d.1 (d.2.1 : Int) (d.2.2 : Int) = true := by subst hcd; simp [cEq]
          have heq := fun W => neqC c.1 (c.2.1 : Int) (c.2.2 : Int) d.1 (d.2.1 : Int) (d.2.2 : Int) W
          simp only [hq1] at heq
          have HCD := hid hcd
          clear hcd
          generalize hwq : w.drewN q = wq at *
          have HWQ := hid hwq
          clear hwq
          go_upto_region 6 with fail
          go_quiet (fail)
          go_wp2
          refine ⟨⟨i + 1, by omega, by go_num, fun j hj => ?_, q + nq, by rw [← HWQ.out]; simp [World.drewN, Nat.add_assoc]⟩, by simp [intOf]; omega⟩
          rcases Nat.lt_or_ge j i with h3 | h3
          · exact HE.out j h3
          · obtain rfl : j = i := by omega
            rw [HC.out, HD.out, HCD.out]
        · have hq1 : cEq c.1 (c.2.1 : Int) (c.2.2 : Int) d.1 (d.2.1 : Int) (d.2.2 : Int) = false := by
            refine decide_eq_false fun hq => hcd ?_
            obtain ⟨q1, q2, q3⟩ := hq
            exact Prod.ext q1 (Prod.ext (Int.ofNat.inj q2) (Int.ofNat.inj q3))
          have heq := fun W => neqC c.1 (c.2.1 : Int) (c.2.2 : Int) d.1 (d.2.1 : Int) (d.2.2 : Int) W
          simp only [hq1] at heq
          have HF : Hid (decide (K = M) = false) := decide_eq_false (fun e => by
            subst e
            have := HC.out.symm.trans HD.out
            exact hcd (Option.some.inj this))
          clear hcd
          generalize hwq : w.drewN q = wq at *
          have HWQ := hid hwq
          clear hwq
          go_upto_region 6 with fail
          go_quiet (fail)
          go_wp2
          go_ret
          exact ⟨ret_bool HF.out.symm, q + nq, by rw [← HWQ.out]; simp [World.drewN, Nat.add_assoc]⟩
      · obtain rfl : i = n := by omega
        have HT : Hid (decide (K = M) = true) := decide_eq_true (by
          apply List.ext_getElem?
          intro j
          rcases Nat.lt_or_ge j i with h3 | h3
          · exact HE.out j h3
          · rw [List.getElem?_eq_none (by omega), List.getElem?_eq_none (by omega)])
        go_wp2
        go_ret
        exact ⟨ret_bool HT.out.symm, q, rfl⟩
  · have HF : Hid (decide (K = M) = false) := decide_eq_false (fun e => by subst e; omega)
    have hn1 : ((n : Int) != (m : Int)) = true := by simp; omega
    go_enter Try.func44, Try.ntmps44
    go_wp2
    go_ret
    exact ⟨ret_bool HF.out.symm, 0, rfl⟩

/-! ### Of at rest -/
end Go.Proofs.Ytlelglfdamakaaa
namespace Go.Proofs.Ytlelglfdamakaaa
open Go.RowKit Go.Shelf H
set_option linter.unusedVariables false

/-- A catalogue's tokens and forest. -/
structure St where
  X : List Tk
  l : Fo
def dropS (s : St) (n : Int) : St := if n ∈ nums s.l then ⟨zer s.X (G true s.l n), cuts s.l (G true s.l n)⟩ else s
/-- Drop as it changes the catalogue. -/
def Dropped (w : World) (A : Ad) (kn mo : Nat) (s : St) (n : Int) (e : Ending) (w' : World) : Prop :=
  ∃ a c, e = .returned (.tuple #[.slice a (if n ∈ nums s.l then G true s.l n else []).length c, .int .i64 (if n ∈ nums s.l then 0 else 20)]) ∧ Ow w' w.heap.size 32 3 a (if n ∈ nums s.l then G true s.l n else []).length c (caps ((if n ∈ nums s.l then G true s.l n else []).map (fun k => (tk s.X k).1))) ∧ Cat w' A kn mo (dropS s n).X (dropS s n).l ∧ But A.Wr w w'
theorem cdrop_any {w : World} {A : Ad} {kn mo : Nat} {X : List Tk} {l : Fo} (h : Cat w A kn mo X l) (n : Int) :
    Calls Try.prog 13 #[.pointer (some ⟨A.g, 0, none⟩), .int .i64 n] w (Dropped w A kn mo ⟨X, l⟩ n) := by
  unfold Dropped dropS
  by_cases hn : n ∈ nums l
  · simp only [if_pos hn]
    exact drop_ok h n hn
  · simp only [if_neg hn]
    exact (drop_bad h n hn).mono (fun e w' he => ⟨none, 0, he.1, Ow.nil _ _ _ _, h.later he.2, But.of he.2⟩)
end Go.Proofs.Ytlelglfdamakaaa
