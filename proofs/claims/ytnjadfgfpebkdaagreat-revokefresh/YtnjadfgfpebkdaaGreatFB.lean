import Derived.Test.YtnjadfgfpebkdaaGreatEB
import Derived.Test.YtnjadfgfpebkdaaGreatMR
namespace Go.Proofs.YtnjadfgfpebkdaaGreat.D
open Go.RowKit
open Go.Proofs.YtnjadfgfpebkdaaGreat.H (B64 Cp)
set_option linter.unusedVariables false

/-! ### The law's own: mod, made -/
theorem mod_any (x : Int) (t : Nat) (m : Int) (hm : m = (t : Int)) (w : World) (ht : 0 < t) (h2 : t ≤ 1024) :
    Calls Tryz.prog 10 #[.int .i64 x, .int .i64 m] w fun e w' => e = .returned (.int .i64 (intoN x t : Int)) ∧ w' = w := by
  subst hm
  exact into_any x t w ht h2
def s0 (mo : Nat) : Sta := ⟨List.replicate mo tz, [], [], 1, []⟩
theorem fit0 (mo : Nat) : Fit mo (s0 mo) := ⟨Inv.init mo, fun o => by simp [s0, inN, nums], rfl, fun o => by simp [s0, hasO, nums], fun p hp => by cases hp⟩
/-- What made gives. -/
def Made (w : World) (mo : Nat) (e : Ending) (w' : World) : Prop :=
  ∃ (H : Hd) (N : Nat → Prop), e = .returned (.tuple #[.pointer (some ⟨H.sb, 0, none⟩), .pointer (some ⟨H.rb, 0, none⟩)]) ∧ H.mo = mo ∧ H.base = w.heap.size ∧ Duo w' H (s0 mo) (s0 mo) 0 N ∧ Below w.heap.size w w' ∧ w.heap.size ≤ H.sb ∧ w.heap.size ≤ H.rb
theorem rq_mono {w : World} {base b r : Nat} {e a : Int} {pa : Option Addr} {cap : Nat} {L : List Int} (h : Q.Rf w base r e a pa cap L) (hb : b ≤ base) : Q.Rf w b r e a pa cap L :=
  ⟨h.c0, h.c1, h.c2, h.own.mono hb, h.ap, h.sz, Nat.le_trans hb h.lo⟩
/-- The six, apart as they were made. -/
def M6 (A : Ad) (qg qb : Nat) (z : S.Sid) (r b q v : Nat) : Nat → Nat → Prop
  | 0, k => A.All k
  | 1, k => k = qg ∨ k = qb
  | 2, k => S.Zb z k
  | 3, k => k = r ∨ k = b
  | 4, k => k = q
  | 5, k => k = v
  | _, _ => False
set_option maxRecDepth 100000 in
set_option maxHeartbeats 2000000 in
theorem made_any (x y : Int) (w : World) : Calls Tryz.prog 7 #[.int .i64 x, .int .i64 y] w (Made w (1 + intoN x 256)) := by
  have HP1 := hid (fun U => mod_any x 256 256 rfl U (by decide) (by decide))
  have HP2 := hid (fun U => mod_any y 65 65 rfl U (by decide) (by decide))
  have hp := intoN_lt x (t := 256) (by decide)
  have hk := intoN_lt y (t := 65) (by decide)
  obtain ⟨p, hpe⟩ : ∃ p, p = intoN x 256 := ⟨_, rfl⟩
  obtain ⟨kn, hke⟩ : ∃ kn, kn = intoN y 65 := ⟨_, rfl⟩
  rw [← hpe] at hp HP1
  rw [← hke] at hk HP2
  rw [← hpe]
  have hcast : ((1 + p : Nat) : Int) = 1 + (p : Int) := by omega
  have HC := hid hcast
  have K1 := hid (fun U => cnew_ok U (1 + p) kn (by omega) (by omega) (by omega))
  have K2 := hid (fun U => Q.new_ok 256 (1 + (p : Int)) U ⟨⟨by omega, by omega⟩, by omega, by omega⟩)
  have K3 := hid (fun U => S.st_new 8 64 U (by decide) (by decide))
  have K4 := hid (fun U => Go.Proofs.YtnjadfgfpebkdaaGreat.rnew_ok U (1 + p) kn (by omega) (by omega) (by omega))
  have K5 := hid (fun U => Q.rnew_ok 256 (1 + (p : Int)) U ⟨⟨by omega, by omega⟩, by omega, by omega⟩)
  have K6 := hid (fun (U : World) (hU : w.heap.size ≤ U.heap.size) => S.rnew_ok w.heap.size 8 64 U (by decide) (by decide) hU)
  rw [hcast] at K1 K4
  clear hpe hke hcast
  go_enter Tryz.func7, Tryz.ntmps7
  go_upto_region 2 with (first
    | (go_at_call 10; have hq_ := Q1; clear hq_; refine (HP2.out _).mono ?_; rintro e w9 ⟨rfl, hw9⟩; obtain rfl := hw9.symm; clear hw9)
    | (go_at_call 10; refine (HP1.out _).mono ?_; rintro e w9 ⟨rfl, hw9⟩; obtain rfl := hw9.symm; clear hw9; obtain ⟨Q1, _⟩ : ∃ m : Nat, m = 0 := ⟨0, rfl⟩))
  go_upto_region 3 with (first
    | (go_at_call 28; refine (K1.out w).mono ?_; rintro e w1 ⟨A, rfl, hc1, ha1, hb1⟩; have HC1 := hid hc1; have HA1 := hid ha1; have HB1 := hid hb1; clear hc1 ha1 hb1))
  go_upto_region 4 with (first
    | (go_at_call 29; refine (K2.out w1).mono ?_; rintro e w2 ⟨qg, qb, rfl, hq2, hg2, hg3, hb2⟩; have HQ2 := hid hq2; have HG2 := hid (And.intro hg2 hg3); have HB2 := hid hb2; clear hq2 hg2 hg3 hb2))
  go_upto_region 5 with (first
    | (go_at_call 30; refine (K3.out w2).mono ?_; rintro e w3 ⟨z, hz1, hz2, rfl, hs3, hz3, hb3⟩; have HZ := hid (And.intro hz1 hz2); have HS3 := hid hs3; have HZ3 := hid hz3; have HB3 := hid hb3; clear hz1 hz2 hs3 hz3 hb3))
  go_upto_region 8 with (first
    | (go_at_call 31; refine (K4.out w3).mono ?_; rintro e w4 ⟨r, b, rfl, hr4, hr1, hr2, hb4⟩; have HR4 := hid hr4; have HG4 := hid (And.intro hr1 hr2); have HB4 := hid hb4; clear hr4 hr1 hr2 hb4))
  go_upto_region 9 with (first
    | (go_at_call 32; refine (K5.out w4).mono ?_; rintro e w5 ⟨q, rfl, hq5, hb5⟩; have HQ5 := hid hq5; have HB5 := hid hb5; clear hq5 hb5))
  have HS5 : Hid (w.heap.size ≤ w5.heap.size) := Nat.le_trans (Nat.le_trans (Nat.le_trans (Nat.le_trans HB1.out.size HB2.out.size) HB3.out.size) HB4.out.size) HB5.out.size
  go_wp2_with (first
    | (go_at_call 33; refine (K6.out w5 HS5.out).mono ?_; rintro e w6 ⟨v, rfl, hr6, hv6, hb6⟩; have HR6 := hid hr6; have HV6 := hid hv6; have HB6 := hid hb6; clear hr6 hv6 hb6))
  obtain ⟨W, hW⟩ : ∃ W, W = (w6.alloc (Obj.cells #[.pointer (some ⟨A.g, 0, none⟩), .pointer (some ⟨qg, 0, none⟩), .pointer (some ⟨z.s, 0, none⟩)] 41)).alloc (Obj.cells #[.pointer (some ⟨r, 0, none⟩), .pointer (some ⟨q, 0, none⟩), .pointer (some ⟨v, 0, none⟩)] 63) := ⟨_, rfl⟩
  have hBW : Below w6.heap.size w6 W := by rw [hW]; exact below2 _ _ _
  have t1 : Tp W w6.heap.size A.g qg z.s := by rw [hW]; exact ⟨by simp [go_sem], by simp [go_sem], by simp [go_sem]⟩
  have t2 : Tp W (w6.heap.size + 1) r q v := by rw [hW]; exact ⟨by simp [go_sem], by simp [go_sem], by simp [go_sem]⟩
  refine bodyPost_ret (v := .tuple #[.pointer (some ⟨w6.heap.size, 0, none⟩), .pointer (some ⟨w6.heap.size + 1, 0, none⟩)]) (by simp [results, Tryz.results7, go_sem]) rfl ?_
  rw [← hW]
  have e1 := HB1.out.size
  have e2 := HB2.out.size
  have e3 := HB3.out.size
  have e4 := HB4.out.size
  have e5 := HB5.out.size
  have e6 := HB6.out.size
  have e7 := hBW.size
  have b16 : Below w1.heap.size w1 W := below_call (below_call (below_call (below_call (below_call HB2.out HB3.out) HB4.out) HB5.out) HB6.out) hBW
  have b26 : Below w2.heap.size w2 W := below_call (below_call (below_call (below_call HB3.out HB4.out) HB5.out) HB6.out) hBW
  have b36 : Below w3.heap.size w3 W := below_call (below_call (below_call HB4.out HB5.out) HB6.out) hBW
  have b46 : Below w4.heap.size w4 W := below_call (below_call HB5.out HB6.out) hBW
  have b56 : Below w5.heap.size w5 W := below_call HB6.out hBW
  have hM : ∀ i k, M6 A qg qb z r b q v i k → (i = 0 ∧ w.heap.size ≤ k ∧ k < w1.heap.size) ∨ (i = 1 ∧ w1.heap.size ≤ k ∧ k < w2.heap.size) ∨ (i = 2 ∧ w2.heap.size ≤ k ∧ k < w3.heap.size) ∨ (i = 3 ∧ w3.heap.size ≤ k ∧ k < w4.heap.size) ∨ (i = 4 ∧ w4.heap.size ≤ k ∧ k < w5.heap.size) ∨ (i = 5 ∧ w5.heap.size ≤ k ∧ k < w6.heap.size) := by
    intro i k hk
    match i, hk with
    | 0, hk => exact .inl ⟨rfl, HA1.out k hk, HC1.out.lt k hk⟩
    | 1, hk =>
      refine .inr (.inl ⟨rfl, ?_⟩)
      rcases hk with rfl | rfl
      · exact ⟨HG2.out.1, HQ2.out.glt⟩
      · exact ⟨HG2.out.2, HQ2.out.blt⟩
    | 2, hk => exact .inr (.inr (.inl ⟨rfl, HZ3.out k hk⟩))
    | 3, hk =>
      refine .inr (.inr (.inr (.inl ⟨rfl, ?_⟩)))
      rcases hk with rfl | rfl
      · exact ⟨HG4.out.1, HR4.out.ltr⟩
      · exact ⟨HG4.out.2, HR4.out.ltb⟩
    | 4, hk =>
      refine .inr (.inr (.inr (.inr (.inl ⟨rfl, ?_⟩))))
      change k = q at hk
      subst hk
      exact ⟨HQ5.out.lo, HQ5.out.rlt⟩
    | 5, hk =>
      refine .inr (.inr (.inr (.inr (.inr ⟨rfl, ?_⟩))))
      change k = v at hk
      subst hk
      exact ⟨Nat.le_of_eq HV6.out.symm, World.block_lt_of_cell? _ _ HR6.out.c0.1⟩
    | _ + 6, hk => exact hk.elim
  refine ⟨⟨A, kn, 1 + p, qg, qb, z, r, b, q, v, w6.heap.size, w6.heap.size + 1, w.heap.size⟩, fun k => w.heap.size ≤ k ∧ k < w6.heap.size, rfl, rfl, rfl, ⟨M6 A qg qb z r b q v, fun i => ?_, fun i j k hi hj => ?_, fun i k hk => ?_, fun k hk => ?_, HZ.out, t1, t2, ⟨by show 1 ≤ 1 + p; omega, by show 1 + p ≤ 256; omega⟩⟩, below_call (below_call HB1.out (below_call (below_call (below_call (below_call HB2.out HB3.out) HB4.out) HB5.out) HB6.out)) hBW, by show w.heap.size ≤ w6.heap.size; omega, by show w.heap.size ≤ w6.heap.size + 1; omega⟩
  · match i with
    | 0 => exact ⟨HC1.out.later b16, fun k hk => hk⟩
    | 1 => exact ⟨by rw [show (((⟨A, kn, 1 + p, qg, qb, z, r, b, q, v, w6.heap.size, w6.heap.size + 1, w.heap.size⟩ : Hd).mo : Nat) : Int) = 1 + (p : Int) from HC.out]; exact HQ2.out.later b26, fun k hk => hk⟩
    | 2 => exact ⟨[], HS3.out.later b36, rfl, fun k hk => by
        rcases hk with h1 | h1
        · exact h1
        · obtain ⟨o, ho, _⟩ := h1; cases ho⟩
    | 3 => exact ⟨_, _, HR4.out.later b46, ⟨List.Pairwise.nil, fun x hx => by cases hx⟩, Nat.le_refl _, fun k hk => hk⟩
    | 4 => exact ⟨none, 0, by rw [show (((⟨A, kn, 1 + p, qg, qb, z, r, b, q, v, w6.heap.size, w6.heap.size + 1, w.heap.size⟩ : Hd).mo : Nat) : Int) = 1 + (p : Int) from HC.out]; exact rq_mono (HQ5.out.later b56) (by show w.heap.size ≤ w4.heap.size; omega), fun k hk => by
        rcases hk with h1 | h1
        · exact h1
        · obtain ⟨x, hx, _⟩ := h1; cases hx⟩
    | 5 => exact ⟨_, _, _, _, HR6.out.later hBW, fun k hk => by
        show k = v
        by_cases e : k = v
        · exact e
        · simp only [if_neg e] at hk; exact absurd rfl hk⟩
    | _ + 6 => trivial
  · have h1 := hM i k hi
    have h2 := hM j k hj
    omega
  · have h1 := hM i k hk
    show w.heap.size ≤ k ∧ k < w6.heap.size
    omega
  · exact ⟨hk.1, Nat.lt_of_lt_of_le hk.2 e7, fun e => by have := hk.2; change k = w6.heap.size at e; omega, fun e => by have := hk.2; change k = w6.heap.size + 1 at e; omega⟩
end Go.Proofs.YtnjadfgfpebkdaaGreat.D
namespace Go.Proofs.YtnjadfgfpebkdaaGreat.D
open Go.RowKit
open Go.Proofs.YtnjadfgfpebkdaaGreat.H (B64 Cp)
set_option linter.unusedVariables false

/-! ### A script -/
structure Opr where
  kd : Int
  ob : Int
  at_ : Int
  rt : Int
  sz : Int
  wh : Nat
  wl : Nat
  x : Cp
/-- A call of the script in memory. -/
structure OpB (w : World) (b o : Nat) (s : Opr) : Prop where
  c0 : w.cell? ⟨b, o, none⟩ = some (.int .i64 s.kd)
  c1 : w.cell? ⟨b, o + 1, none⟩ = some (.int .i64 s.ob)
  c2 : w.cell? ⟨b, o + 2, none⟩ = some (.int .i64 s.at_)
  c3 : w.cell? ⟨b, o + 3, none⟩ = some (.int .i64 s.rt)
  c4 : w.cell? ⟨b, o + 4, none⟩ = some (.int .i64 s.sz)
  c5 : w.cell? ⟨b, o + 5, none⟩ = some (.int .u64 (s.wh : Int))
  c6 : w.cell? ⟨b, o + 6, none⟩ = some (.int .u64 (s.wl : Int))
  c7 : w.cell? ⟨b, o + 7, none⟩ = some (.int .i64 s.x.1)
  c8 : w.cell? ⟨b, o + 8, none⟩ = some (.int .u64 (s.x.2.1 : Int))
  c9 : w.cell? ⟨b, o + 9, none⟩ = some (.int .u64 (s.x.2.2 : Int))
theorem OpB.but {S : Nat → Prop} {w w' : World} {b o : Nat} {s : Opr} (h : OpB w b o s) (hb : But S w w') (hn : ¬ S b) : OpB w' b o s := ⟨cell_but hb h.c0 hn, cell_but hb h.c1 hn, cell_but hb h.c2 hn, cell_but hb h.c3 hn, cell_but hb h.c4 hn, cell_but hb h.c5 hn, cell_but hb h.c6 hn, cell_but hb h.c7 hn, cell_but hb h.c8 hn, cell_but hb h.c9 hn⟩
theorem OpB.later {w w' : World} {b o : Nat} {s : Opr} (h : OpB w b o s) (hb : Below w.heap.size w w') : OpB w' b o s := h.but (S := fun _ => False) (But.of hb) (fun h => h)
theorem OpB.lt {w : World} {b o : Nat} {s : Opr} (h : OpB w b o s) : b < w.heap.size := World.block_lt_of_cell? _ _ h.c0
theorem OpB.zero {w : World} {b : Nat} {s : Opr} (h : OpB w b 0 s) : w.cell? ⟨b, 0, none⟩ = some (.int .i64 s.kd) ∧ w.cell? ⟨b, 1, none⟩ = some (.int .i64 s.ob) ∧ w.cell? ⟨b, 2, none⟩ = some (.int .i64 s.at_) ∧ w.cell? ⟨b, 3, none⟩ = some (.int .i64 s.rt) ∧ w.cell? ⟨b, 4, none⟩ = some (.int .i64 s.sz) ∧ w.cell? ⟨b, 5, none⟩ = some (.int .u64 (s.wh : Int)) ∧ w.cell? ⟨b, 6, none⟩ = some (.int .u64 (s.wl : Int)) ∧ w.cell? ⟨b, 7, none⟩ = some (.int .i64 s.x.1) ∧ w.cell? ⟨b, 8, none⟩ = some (.int .u64 (s.x.2.1 : Int)) ∧ w.cell? ⟨b, 9, none⟩ = some (.int .u64 (s.x.2.2 : Int)) := by
  have h0 := h.c0
  have h1 := h.c1
  have h2 := h.c2
  have h3 := h.c3
  have h4 := h.c4
  have h5 := h.c5
  have h6 := h.c6
  have h7 := h.c7
  have h8 := h.c8
  have h9 := h.c9
  simp only [Nat.zero_add] at h0 h1 h2 h3 h4 h5 h6 h7 h8 h9
  exact ⟨h0, h1, h2, h3, h4, h5, h6, h7, h8, h9⟩
structure Opr.Ok (s : Opr) : Prop where
  ob : S.i64ok s.ob
  sz : S.i64ok s.sz
  wh : s.wh < B64
  wl : s.wl < B64
  xo : S.i64ok s.x.1
  xw : s.x.2.1 < B64 ∧ s.x.2.2 < B64
structure Ss (w : World) (a : Option Addr) (n : Nat) (f : Nat → Opr) : Prop where
  at_ : 0 < n → ∃ b o, a = some ⟨b, o, none⟩ ∧ ∀ i, i < n → OpB w b (o + i * 10) (f i)
  ok : ∀ i, i < n → (f i).Ok
theorem Ss.later {w w' : World} {a : Option Addr} {n : Nat} {f : Nat → Opr} (h : Ss w a n f) (hb : Below w.heap.size w w') : Ss w' a n f :=
  ⟨fun h0 => by obtain ⟨b, o, e, hi⟩ := h.at_ h0; exact ⟨b, o, e, fun i hi' => (hi i hi').later hb⟩, h.ok⟩
def opC (s : Opr) : Array Value := #[.int .i64 s.kd, .int .i64 s.ob, .int .i64 s.at_, .int .i64 s.rt, .int .i64 s.sz, .int .u64 (s.wh : Int), .int .u64 (s.wl : Int), .int .i64 s.x.1, .int .u64 (s.x.2.1 : Int), .int .u64 (s.x.2.2 : Int)]
def opV (s : Opr) : Value := .agg (opC s)
theorem opb_new (w : World) (s : Opr) (e : TypeId) : OpB (w.alloc (Obj.cells (opC s) e)) w.heap.size 0 s := by
  unfold opC
  exact ⟨by simp [go_sem], by simp [go_sem], by simp [go_sem], by simp [go_sem], by simp [go_sem], by simp [go_sem], by simp [go_sem], by simp [go_sem], by simp [go_sem], by simp [go_sem]⟩
theorem len_small {m : Nat} {X : List Tk} {l : Fo} (h : Inv m X l) (o : Int) : (ofL m X l o).length ≤ m := by
  have h1 := nd_sub (A := nums l) (B := firsts m) h.ok.nodup (fun x hx => mem_firsts.2 (h.ok.range x hx))
  rw [firsts_len] at h1
  refine Nat.le_trans ?_ h1
  by_cases ho : 0 < inN X l o
  · obtain ⟨n, hn, e⟩ := hasO_iff.1 (hasO_inN.2 ho)
    obtain ⟨Gs, hT⟩ := h.told hn
    rw [e] at hT
    rw [hT.len, hT.inn]
    exact List.length_filter_le _ _
  · have : ofL m X l o = [] := by
      unfold ofL
      rw [rootOf_none]
      intro r hr e
      exact ho (hasO_inN.1 (hasO_iff.2 ⟨r, mem_nums.2 ⟨_, hr⟩, e⟩))
    rw [this]; simp
theorem ofL_nil {m : Nat} {X : List Tk} {l : Fo} (h : Inv m X l) (o : Int) : ofL m X l o = [] ↔ hasO X l o = false := by
  constructor
  · intro e
    cases ho : hasO X l o with
    | false => rfl
    | true =>
      obtain ⟨n, hn, e1⟩ := hasO_iff.1 ho
      obtain ⟨Gs, hT⟩ := h.told hn
      rw [e1, e] at hT
      have := hT.len
      have := hT.pos
      simp at *
      omega
  · intro ho
    unfold ofL
    rw [rootOf_none]
    intro r hr e
    have := hasO_iff.2 ⟨r, mem_nums.2 ⟨_, hr⟩, e⟩
    rw [ho] at this; cases this
/-- A token of the list is one of the catalogue. -/
theorem ofL_mem {m : Nat} {X : List Tk} {l : Fo} (h : Inv m X l) {o : Int} {i : Nat} {t : Tok} (ht : (ofL m X l o)[i]? = some t) : ∃ n ∈ nums l, (tk X n).1 = t.1 ∧ rg X n = t.2.1 ∧ t.1.1 = o := by
  cases ho : hasO X l o with
  | false => rw [(ofL_nil h o).2 ho] at ht; cases ht
  | true =>
    obtain ⟨n, hn, e1⟩ := hasO_iff.1 ho
    obtain ⟨Gs, hT⟩ := h.told hn
    rw [e1] at hT
    obtain ⟨hi, _⟩ := List.getElem?_eq_some_iff.1 ht
    rw [hT.len] at hi
    obtain ⟨h1, h2, q, h3, _⟩ := hT.at_ i Gs[i] (List.getElem?_eq_some_iff.2 ⟨hi, rfl⟩)
    rw [ht] at h3
    cases h3
    refine ⟨Gs[i], h1, rfl, rfl, ?_⟩
    have : ob X Gs[i] = o := h2
    unfold ob at this
    exact this
def pickT (O : List Tok) (x : Int) : Tok := O[intoN x O.length]?.getD ((0, 0, 0), 0, 0)
theorem pickT_get {O : List Tok} (h : 0 < O.length) (x : Int) : O[intoN x O.length]? = some (pickT O x) := by
  unfold pickT
  rw [List.getElem?_eq_getElem (intoN_lt x h)]
  rfl
def namedC (mo : Nat) (d : Sta) (o : Opr) : Cp := if ofL mo d.X d.l o.ob = [] ∨ o.kd = 5 then o.x else (pickT (ofL mo d.X d.l o.ob) o.at_).1
theorem namedC_ok {mo : Nat} {d : Sta} (hv : Inv mo d.X d.l) {o : Opr} (ok : o.Ok) : S.i64ok (namedC mo d o).1 ∧ (namedC mo d o).2.1 < B64 ∧ (namedC mo d o).2.2 < B64 := by
  unfold namedC
  split
  · exact ⟨ok.xo, ok.xw⟩
  · rename_i h
    have h1 : 0 < (ofL mo d.X d.l o.ob).length := by
      rw [List.length_pos_iff]; exact fun e => h (.inl e)
    obtain ⟨n, hn, e1, _, e3⟩ := ofL_mem hv (pickT_get h1 o.at_)
    rw [e3]
    refine ⟨ok.ob, ?_⟩
    rw [← e1]
    exact hv.wide n hn
end Go.Proofs.YtnjadfgfpebkdaaGreat.D
namespace Go.Proofs.YtnjadfgfpebkdaaGreat.D
open Go.RowKit
open Go.Proofs.YtnjadfgfpebkdaaGreat.H (B64 Cp)
set_option linter.unusedVariables false

theorem _root_.Go.Proofs.YtnjadfgfpebkdaaGreat.Ow.rt {w : World} {base : Nat} {a : Option Addr} {n cap : Nat} {K : List Tok} (h : Ow w base 47 5 a n cap (toks K)) (hn : K.length = n) : Rt w a n K :=
  ⟨hn, fun h0 => by
    obtain ⟨b, e, hc⟩ := h.at_ h0
    refine ⟨b, 0, e, fun i c hi => ?_⟩
    have hg := fun d (hd : d < 5) => cls_get (enc := encT) (k := 5) (fun _ => rfl) K i d c hi hd
    rw [Nat.zero_add]
    exact ⟨hc _ _ (hg 0 (by omega)), hc _ _ (hg 1 (by omega)), hc _ _ (hg 2 (by omega)), hc _ _ (hg 3 (by omega)), hc _ _ (hg 4 (by omega))⟩⟩
/-- A list of tokens read at a place. -/
theorem rt_at {w : World} {a : Option Addr} {n : Nat} {K : List Tok} (h : Rt w a n K) {i : Nat} {t : Tok} (hi : K[i]? = some t) : ∃ b o, a = some ⟨b, o, none⟩ ∧ Cet w b (o + i * 5) t := by
  have h0 : 0 < n := by rw [← h.len]; exact Nat.lt_of_le_of_lt (Nat.zero_le _) (List.getElem?_eq_some_iff.1 hi).1
  obtain ⟨b, o, e, hc⟩ := h.at_ h0
  exact ⟨b, o, e, hc i t hi⟩
set_option maxRecDepth 100000 in
set_option maxHeartbeats 2000000 in
theorem named_any {w : World} {H : Hd} {s d : Sta} {T : Nat} {N : Nat → Prop} (h : Duo w H s d T N) (hv : Inv H.mo d.X d.l) (o : Opr) :
    Calls Tryz.prog 25 #[.pointer (some ⟨H.rb, 0, none⟩), opV o] w fun e w' => e = .returned (cpV (namedC H.mo d o)) ∧ Below w.heap.size w w' := by
  obtain ⟨w0, hw0⟩ : ∃ w0, w0 = (w.alloc (Obj.cells (opC o) 29)).alloc (Obj.cells #[.int .i64 0, .int .u64 0, .int .u64 0] 27) := ⟨_, rfl⟩
  have hB0 : Below w.heap.size w w0 := by rw [hw0]; exact below2 _ _ _
  have hob : OpB w0 w.heap.size 0 o := by rw [hw0]; exact (opb_new w o 29).later (below1 _ _)
  have hres : Lies w0 ⟨w.heap.size + 1, 0, none⟩ (.int .i64 0) ∧ Lies w0 ⟨w.heap.size + 1, 1, none⟩ (.int .u64 0) ∧ Lies w0 ⟨w.heap.size + 1, 2, none⟩ (.int .u64 0) := by
    rw [hw0]
    exact ⟨⟨by simp [go_sem], by simp [go_sem]⟩, ⟨by simp [go_sem], by simp [go_sem]⟩, ⟨by simp [go_sem], by simp [go_sem]⟩⟩
  have HOf : Hid (∀ (U : World), Below w.heap.size w U → Calls Tryz.prog 20 #[.pointer (some ⟨H.r, 0, none⟩), .int .i64 o.ob] U fun e w' => ∃ a c, e = .returned (.slice a (ofL H.mo d.X d.l o.ob).length c) ∧ Ow w' U.heap.size 47 5 a (ofL H.mo d.X d.l o.ob).length c (toks (ofL H.mo d.X d.l o.ob)) ∧ Below U.heap.size U w') := fun U hU => by
    obtain ⟨wh, ev, hr, ht⟩ := (h.later hU).rc
    exact rof_any hr hv ht o.ob
  have hsm := len_small hv o.ob
  have hmo := h.hmo
  have HT2 := hid h.t2
  have HB0 := hid hB0
  have HOB := hid hob
  have HRs := hid hres
  obtain ⟨C, hC⟩ : ∃ C, C = namedC H.mo d o := ⟨_, rfl⟩
  rw [← hC]
  unfold namedC at hC
  obtain ⟨O, hO⟩ : ∃ O, O = ofL H.mo d.X d.l o.ob := ⟨_, rfl⟩
  rw [← hO] at HOf hsm hC
  have HC := hid hC
  clear hC
  obtain ⟨n, hn⟩ : ∃ n, n = O.length := ⟨_, rfl⟩
  rw [← hn] at HOf hsm
  have HN := hid hn
  have HS : Hid (∀ U, Below w0.heap.size w0 U → (U.cell? ⟨H.rb, 0, none⟩ = some (.pointer (some ⟨H.r, 0, none⟩)) ∧ U.cell? ⟨w.heap.size, 1, none⟩ = some (.int .i64 o.ob)) ∧ Below w0.heap.size w0 U) := fun U hU => ⟨⟨(HT2.out.later (below_call HB0.out hU)).c0, (HOB.out.later hU).zero.2.1⟩, hU⟩
  unfold opV
  clear h hv hob hres hB0 hO hn
  go_enter Tryz.func25, Tryz.ntmps25
  go_upto_region 1 with fail
  rw [← hw0]
  clear hw0
  go_region_held3 (fun U => (U.cell? ⟨H.rb, 0, none⟩ = some (.pointer (some ⟨H.r, 0, none⟩)) ∧ U.cell? ⟨w.heap.size, 1, none⟩ = some (.int .i64 o.ob)) ∧ Below w0.heap.size w0 U) (first | exact HS.out _ HB1.out | exact HS.out _ (Below.refl _ _).drew | exact HS.out _ (Below.refl _ _)) (first
    | (go_at_call 20; refine (HOf.out _ (below_call HB0.out (Below.refl _ _).drew)).mono ?_; rintro e w1 ⟨a, c, rfl, hO1, hb1⟩; have HB1 := hid (below_call (Below.refl w0.heap.size w0).drew hb1); have HO1 := hid hO1; clear hO1 hb1))
  obtain ⟨x0, x1, x2, x3, x4, x5, x6, x7, x8, x9⟩ := (HOB.out.later HB1.out).zero
  obtain ⟨⟨y0, f0⟩, ⟨y1, f1⟩, ⟨y2, f2⟩⟩ := And.intro (HRs.out.1.later HB1.out) (And.intro (HRs.out.2.1.later HB1.out) (HRs.out.2.2.later HB1.out))
  have HBw := hid (below_call HB0.out HB1.out)
  have hset : ∀ (c : Cp), Below w.heap.size w (((w1.setCell ⟨w.heap.size + 1, 0, none⟩ (.int .i64 c.1)).setCell ⟨w.heap.size + 1, 1, none⟩ (.int .u64 (c.2.1 : Int))).setCell ⟨w.heap.size + 1, 2, none⟩ (.int .u64 (c.2.2 : Int))) := fun c =>
    But.below HBw.out ((((But.refl (· = w.heap.size + 1) w1).setCell (p := ⟨w.heap.size + 1, 0, none⟩) rfl _).setCell (p := ⟨w.heap.size + 1, 1, none⟩) rfl _).setCell (p := ⟨w.heap.size + 1, 2, none⟩) rfl _) (fun k hk => by omega)
  have HSet := hid hset
  have HRd : Hid (∀ (c : Cp), Cel (((w1.setCell ⟨w.heap.size + 1, 0, none⟩ (.int .i64 c.1)).setCell ⟨w.heap.size + 1, 1, none⟩ (.int .u64 (c.2.1 : Int))).setCell ⟨w.heap.size + 1, 2, none⟩ (.int .u64 (c.2.2 : Int))) (w.heap.size + 1) 0 c) := fun c =>
    ⟨cell_ne (cell_ne (World.cell?_setCell_same _ _ _ y0) (by omega)) (by omega), cell_ne (World.cell?_setCell_same _ _ _ (cell_ne y1 (by omega))) (by omega), World.cell?_setCell_same _ _ _ (cell_ne (cell_ne y2 (by omega)) (by omega))⟩
  clear hset
  have HEnd : Hid (∀ c : Cp, C = c → ∃ W, W = (((w1.setCell ⟨w.heap.size + 1, 0, none⟩ (.int .i64 c.1)).setCell ⟨w.heap.size + 1, 1, none⟩ (.int .u64 (c.2.1 : Int))).setCell ⟨w.heap.size + 1, 2, none⟩ (.int .u64 (c.2.2 : Int))) ∧ W.cell? ⟨w.heap.size + 1, 0, none⟩ = some (.int .i64 C.1) ∧ W.cell? ⟨w.heap.size + 1, 1, none⟩ = some (.int .u64 (C.2.1 : Int)) ∧ W.cell? ⟨w.heap.size + 1, 2, none⟩ = some (.int .u64 (C.2.2 : Int)) ∧ Below w.heap.size w W) := fun c hc => by
    subst hc
    exact ⟨_, rfl, (HRd.out C).c0, (HRd.out C).c1, (HRd.out C).c2, HSet.out C⟩
  clear HRd HSet
  by_cases hz : n = 0 ∨ o.kd = 5
  · have hCx : C = o.x := by
      rw [HC.out]
      refine if_pos ?_
      rcases hz with h1 | h1
      · exact .inl (List.eq_nil_of_length_eq_zero (by rw [← HN.out]; exact h1))
      · exact .inr h1
    obtain ⟨W, hW, r0, r1, r2, hBW⟩ := HEnd.out o.x hCx
    have HBW := hid hBW
    clear hCx hBW
    rcases hz with h1 | h1
    · have hd : ((n : Int) == 0) = true := by simp [h1]
      clear h1
      go_wp2
      rw [← hW]
      clear hW
      exact bodyPost_ret (v := cpV C) (by simp [results, Tryz.results25, go_sem, r0, r1, r2, cpV]) rfl ⟨rfl, HBW.out⟩
    · have hd5 : (o.kd == 5) = true := by simp [h1]
      by_cases h2 : n = 0
      · have hd : ((n : Int) == 0) = true := by simp [h2]
        clear h1 h2
        go_wp2
        rw [← hW]
        clear hW
        exact bodyPost_ret (v := cpV C) (by simp [results, Tryz.results25, go_sem, r0, r1, r2, cpV]) rfl ⟨rfl, HBW.out⟩
      · have hd : ((n : Int) == 0) = false := by simp [h2]
        clear h1 h2
        go_wp2
        rw [← hW]
        clear hW
        exact bodyPost_ret (v := cpV C) (by simp [results, Tryz.results25, go_sem, r0, r1, r2, cpV]) rfl ⟨rfl, HBW.out⟩
  · have h1 : ¬ n = 0 := fun e => hz (.inl e)
    have h2 : ¬ o.kd = 5 := fun e => hz (.inr e)
    have hd : ((n : Int) == 0) = false := by simp [h1]
    have hd5 : (o.kd == 5) = false := by simp [h2]
    have hpos : 0 < O.length := by rw [← HN.out]; omega
    have hCx : C = (pickT O o.at_).1 := by
      rw [HC.out]
      refine if_neg (fun e => ?_)
      rcases e with e | e
      · rw [e] at hpos; exact absurd hpos (by simp)
      · exact h2 e
    have hlt := intoN_lt o.at_ hpos
    obtain ⟨b, off, rfl, hcet⟩ := rt_at (HO1.out.rt HN.out.symm) (pickT_get hpos o.at_)
    obtain ⟨j, hj⟩ : ∃ j, j = intoN o.at_ O.length := ⟨_, rfl⟩
    have HMod := hid (fun U => mod_any o.at_ n (n : Int) rfl U (by omega) (by omega))
    rw [HN.out] at HMod
    rw [← hj] at HMod hlt hcet
    rw [← HN.out] at HMod hlt
    obtain ⟨W, hW, r0, r1, r2, hBW⟩ := HEnd.out _ hCx
    have HBW := hid hBW
    have hj2 : (j : Int) < (n : Int) := by omega
    have hj3 : ¬ (j : Int) < 0 := by omega
    obtain ⟨q0, q1, q2, q3, q4⟩ := hcet
    generalize pickT O o.at_ = P at *
    clear hCx hBW hz h1 h2 hpos hj
    go_wp2_with (first
      | (go_at_call 10; refine (HMod.out _).mono ?_; rintro e w9 ⟨rfl, hw9⟩; obtain rfl := hw9.symm; clear hw9))
    rw [← hW]
    clear hW
    exact bodyPost_ret (v := cpV C) (by simp [results, Tryz.results25, go_sem, r0, r1, r2, cpV]) rfl ⟨rfl, HBW.out⟩
end Go.Proofs.YtnjadfgfpebkdaaGreat.D
