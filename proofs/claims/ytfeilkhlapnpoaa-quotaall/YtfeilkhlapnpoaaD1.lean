import Derived.Test.YtfeilkhlapnpoaaF1
import Derived.Test.YtfeilkhlapnpoaaS2
namespace Go.Proofs.Ytfeilkhlapnpoaa
open Go.RowKit Go.Maps
set_option linter.unusedVariables false

/-- Where a pair lies, and what it counts. -/
structure Pd where
  g : Nat
  b : Nat
  r : Nat
  pa : Option Addr
  cap : Nat
  L : List Int
/-- Its memory. -/
def Pd.In (d : Pd) (k : Nat) : Prop := k = d.g ∨ k = d.b ∨ k = d.r ∨ Blk d.pa k
structure Pr (w : World) (lo : Nat) (e a : Int) (d : Pd) : Prop where
  q : Qu w d.g d.b e a d.L
  rf : Rf w lo d.r e a d.pa d.cap d.L
  gr : d.g ≠ d.r ∧ ¬ Blk d.pa d.g
  br : d.b ≠ d.r ∧ ¬ Blk d.pa d.b
  lg : lo ≤ d.g ∧ lo ≤ d.b
theorem Pr.lo_ {w : World} {lo : Nat} {e a : Int} {d : Pd} (h : Pr w lo e a d) (k : Nat) (hk : d.In k) : lo ≤ k ∧ k < w.heap.size := by
  rcases hk with rfl | rfl | rfl | hk
  · exact ⟨h.lg.1, h.q.glt⟩
  · exact ⟨h.lg.2, h.q.blt⟩
  · exact ⟨h.rf.lo, h.rf.rlt⟩
  · exact ⟨h.rf.own.blk k hk, h.rf.own.lt k hk⟩
theorem Pr.but {S : Nat → Prop} {w w' : World} {lo : Nat} {e a : Int} {d : Pd} (h : Pr w lo e a d) (hb : But S w w') (hn : ∀ k, d.In k → ¬ S k) : Pr w' lo e a d :=
  ⟨h.q.but hb (hn _ (.inl rfl)) (hn _ (.inr (.inl rfl))), h.rf.but hb (hn _ (.inr (.inr (.inl rfl)))) (fun k hk => hn k (.inr (.inr (.inr hk)))), h.gr, h.br, h.lg⟩
theorem Pr.later {w w' : World} {lo : Nat} {e a : Int} {d : Pd} (h : Pr w lo e a d) (hb : Below w.heap.size w w') : Pr w' lo e a d := h.but (S := fun _ => False) (But.of hb) (fun _ _ h => h)
/-- m pairs, in two arrays. -/
structure Duo (w : World) (lo bA bB : Nat) (e a : Int) (P : Nat → Pd) (m : Nat) : Prop where
  ok : ∀ j, j < m → Pr w lo e a (P j)
  dis : ∀ i j k, i < m → j < m → i ≠ j → (P i).In k → ¬ (P j).In k
  a_ : ∀ j, j < m → w.cell? ⟨bA, j, none⟩ = some (.pointer (some ⟨(P j).g, 0, none⟩))
  b_ : ∀ j, j < m → w.cell? ⟨bB, j, none⟩ = some (.pointer (some ⟨(P j).r, 0, none⟩))
  la : ∀ j, j < 2 → ∃ v, Lies w ⟨bA, j, none⟩ v
  lb : ∀ j, j < 2 → ∃ v, Lies w ⟨bB, j, none⟩ v
  out : ∀ j, j < m → ¬ (P j).In bA ∧ ¬ (P j).In bB
  ne : bA ≠ bB
  low : lo ≤ bA ∧ lo ≤ bB
theorem Duo.but {S : Nat → Prop} {w w' : World} {lo bA bB : Nat} {e a : Int} {P : Nat → Pd} {m : Nat} (h : Duo w lo bA bB e a P m) (hb : But S w w') (hA : ¬ S bA) (hB : ¬ S bB) (hn : ∀ j k, j < m → (P j).In k → ¬ S k) : Duo w' lo bA bB e a P m :=
  ⟨fun j hj => (h.ok j hj).but hb (fun k hk => hn j k hj hk), h.dis, fun j hj => cell_but hb (h.a_ j hj) hA, fun j hj => cell_but hb (h.b_ j hj) hB,
    fun j hj => by obtain ⟨v, hv⟩ := h.la j hj; exact ⟨v, hv.but hb hA⟩, fun j hj => by obtain ⟨v, hv⟩ := h.lb j hj; exact ⟨v, hv.but hb hB⟩, h.out, h.ne, h.low⟩
theorem Duo.later {w w' : World} {lo bA bB : Nat} {e a : Int} {P : Nat → Pd} {m : Nat} (h : Duo w lo bA bB e a P m) (hb : Below w.heap.size w w') : Duo w' lo bA bB e a P m := h.but (S := fun _ => False) (But.of hb) (fun h => h) (fun h => h) (fun _ _ _ _ h => h)
theorem Duo.alt {w : World} {lo bA bB : Nat} {e a : Int} {P : Nat → Pd} {m : Nat} (h : Duo w lo bA bB e a P m) : bA < w.heap.size ∧ bB < w.heap.size := by
  obtain ⟨v, hv⟩ := h.la 0 (by omega)
  obtain ⟨u, hu⟩ := h.lb 0 (by omega)
  exact ⟨World.block_lt_of_cell? _ _ hv.1, World.block_lt_of_cell? _ _ hu.1⟩
def upd (P : Nat → Pd) (k : Nat) (d : Pd) (j : Nat) : Pd := if j = k then d else P j
theorem upd_same (P : Nat → Pd) (k : Nat) (d : Pd) : upd P k d k = d := if_pos rfl
theorem upd_other (P : Nat → Pd) (k : Nat) (d : Pd) {j : Nat} (h : j ≠ k) : upd P k d j = P j := if_neg h
/-- Two quotas more. -/
theorem Duo.push {w0 w1 w2 : World} {lo bA bB g b r : Nat} {e a : Int} {P : Nat → Pd} {m : Nat} (h : Duo w0 lo bA bB e a P m) (hm : m < 2) (hq : Qu w1 g b e a []) (hg : w0.heap.size ≤ g) (hb : w0.heap.size ≤ b) (hB1 : Below w0.heap.size w0 w1) (hr : Rf w2 w1.heap.size r e a none 0 []) (hB2 : Below w1.heap.size w1 w2) (hlo : lo ≤ w0.heap.size) :
    ∃ P', Duo ((w2.setCell ⟨bA, m, none⟩ (.pointer (some ⟨g, 0, none⟩))).setCell ⟨bB, m, none⟩ (.pointer (some ⟨r, 0, none⟩))) lo bA bB e a P' (m + 1) := by
  obtain ⟨lA, lB⟩ := h.alt
  have hB := below_call hB1 hB2
  have hD := h.later hB
  have g1 := hq.glt
  have b1 := hq.blt
  have r1 := hr.lo
  have s1 := hB1.size
  have hbt : But (fun k => k = bA ∨ k = bB) w2 ((w2.setCell ⟨bA, m, none⟩ (.pointer (some ⟨g, 0, none⟩))).setCell ⟨bB, m, none⟩ (.pointer (some ⟨r, 0, none⟩))) :=
    ((But.refl _ _).setCell (p := ⟨bA, m, none⟩) (.inl rfl) _).setCell (p := ⟨bB, m, none⟩) (.inr rfl) _
  have hnew : ∀ k, (⟨g, b, r, none, 0, []⟩ : Pd).In k → w0.heap.size ≤ k := fun k hk => by
    rcases hk with rfl | rfl | rfl | ⟨_, e, _⟩
    · exact hg
    · exact hb
    · exact Nat.le_trans s1 r1
    · cases e
  have hold : ∀ j k, j < m → (P j).In k → k < w0.heap.size := fun j k hj hk => ((h.ok j hj).lo_ k hk).2
  refine ⟨upd P m ⟨g, b, r, none, 0, []⟩, ⟨fun j hj => ?_, fun i j k hi hj hij h1 h2 => ?_, fun j hj => ?_, fun j hj => ?_, fun j hj => ?_, fun j hj => ?_, fun j hj => ?_, h.ne, h.low⟩⟩
  · by_cases e : j = m
    · subst e
      rw [upd_same]
      have hr' : Rf w2 lo r _ _ none 0 [] := ⟨hr.c0, hr.c1, hr.c2, hr.own.mono (by omega), hr.ap, hr.sz, by omega⟩
      exact Pr.but ⟨hq.later hB2, hr', ⟨by show g ≠ r; omega, fun ⟨_, e, _⟩ => by cases e⟩, ⟨by show b ≠ r; omega, fun ⟨_, e, _⟩ => by cases e⟩, ⟨by show lo ≤ g; omega, by show lo ≤ b; omega⟩⟩ hbt (fun k hk e => by have := hnew k hk; omega)
    · rw [upd_other _ _ _ e]
      exact (hD.ok j (by omega)).but hbt (fun k hk e => by rcases e with rfl | rfl; exact (h.out j (by omega)).1 hk; exact (h.out j (by omega)).2 hk)
  · by_cases ei : i = m
    · subst ei
      rw [upd_same] at h1
      rw [upd_other _ _ _ (Ne.symm hij)] at h2
      have := hnew k h1
      have := hold j k (by omega) h2
      omega
    · rw [upd_other _ _ _ ei] at h1
      by_cases ej : j = m
      · subst ej
        rw [upd_same] at h2
        have := hnew k h2
        have := hold i k (by omega) h1
        omega
      · rw [upd_other _ _ _ ej] at h2
        exact h.dis i j k (by omega) (by omega) hij h1 h2
  · obtain ⟨v, hv⟩ := hD.la m hm
    by_cases e : j = m
    · subst e
      rw [upd_same]
      exact (hv.put.other (q := ⟨bB, j, none⟩) (fun e => h.ne (congrArg Addr.block e).symm)).1
    · rw [upd_other _ _ _ e, World.cell?_setCell_other _ _ _ _ (fun e => h.ne (congrArg Addr.block e).symm), World.cell?_setCell_other _ _ _ _ (fun e2 => e (congrArg Addr.off e2).symm)]
      exact hD.a_ j (by omega)
  · obtain ⟨v, hv⟩ := hD.lb m hm
    by_cases e : j = m
    · subst e
      rw [upd_same]
      exact (hv.other (q := ⟨bA, j, none⟩) (fun e => h.ne (congrArg Addr.block e))).put.1
    · rw [upd_other _ _ _ e, World.cell?_setCell_other _ _ _ _ (fun e2 => e (congrArg Addr.off e2).symm), World.cell?_setCell_other _ _ _ _ (fun e => h.ne (congrArg Addr.block e))]
      exact hD.b_ j (by omega)
  · obtain ⟨v, hv⟩ := hD.la j hj
    by_cases e : j = m
    · subst e
      exact ⟨_, hv.put.other (fun e => h.ne (congrArg Addr.block e).symm)⟩
    · exact ⟨v, (hv.other (fun e2 => e (congrArg Addr.off e2).symm)).other (fun e => h.ne (congrArg Addr.block e).symm)⟩
  · obtain ⟨v, hv⟩ := hD.lb j hj
    have hv2 := hv.other (q := ⟨bA, m, none⟩) (u := .pointer (some ⟨g, 0, none⟩)) (fun e => h.ne (congrArg Addr.block e))
    by_cases e : j = m
    · subst e
      exact ⟨_, hv2.put⟩
    · exact ⟨v, hv2.other (fun e2 => e (congrArg Addr.off e2).symm)⟩
  · by_cases e : j = m
    · subst e
      rw [upd_same]
      exact ⟨fun hk => by have := hnew bA hk; omega, fun hk => by have := hnew bB hk; omega⟩
    · rw [upd_other _ _ _ e]
      exact h.out j (by omega)
/-- A pair has changed, and new memory. -/
theorem Duo.step {w w' : World} {lo bA bB : Nat} {e a : Int} {P : Nat → Pd} {k : Nat} {pa : Option Addr} {cap : Nat} {L : List Int} (h : Duo w lo bA bB e a P 2) (hk : k < 2) (hp : Pr w' lo e a ⟨(P k).g, (P k).b, (P k).r, pa, cap, L⟩) (hb : But (P k).In w w') (hon : ∀ i, Blk pa i → Blk (P k).pa i ∨ w.heap.size ≤ i) :
    Duo w' lo bA bB e a (upd P k ⟨(P k).g, (P k).b, (P k).r, pa, cap, L⟩) 2 := by
  obtain ⟨lA, lB⟩ := h.alt
  have hin : ∀ i, (⟨(P k).g, (P k).b, (P k).r, pa, cap, L⟩ : Pd).In i → (P k).In i ∨ w.heap.size ≤ i := fun i hi => by
    rcases hi with hi | hi | hi | hi
    · exact .inl (.inl hi)
    · exact .inl (.inr (.inl hi))
    · exact .inl (.inr (.inr (.inl hi)))
    · rcases hon i hi with h1 | h1
      · exact .inl (.inr (.inr (.inr h1)))
      · exact .inr h1
  refine ⟨fun j hj => ?_, fun i j n hi hj hij h1 h2 => ?_, fun j hj => ?_, fun j hj => ?_, fun j hj => ?_, fun j hj => ?_, fun j hj => ?_, h.ne, h.low⟩
  · by_cases e : j = k
    · subst e; rw [upd_same]; exact hp
    · rw [upd_other _ _ _ e]
      exact (h.ok j hj).but hb (fun i hi h2 => h.dis j k i hj hk e hi h2)
  · by_cases ei : i = k
    · subst ei
      rw [upd_same] at h1
      rw [upd_other _ _ _ (Ne.symm hij)] at h2
      rcases hin n h1 with h3 | h3
      · exact h.dis i j n hi hj hij h3 h2
      · have := ((h.ok j hj).lo_ n h2).2; omega
    · rw [upd_other _ _ _ ei] at h1
      by_cases ej : j = k
      · subst ej
        rw [upd_same] at h2
        rcases hin n h2 with h3 | h3
        · exact h.dis i j n hi hj hij h1 h3
        · have := ((h.ok i hi).lo_ n h1).2; omega
      · rw [upd_other _ _ _ ej] at h2
        exact h.dis i j n hi hj hij h1 h2
  · have := cell_but hb (h.a_ j hj) (h.out k hk).1
    by_cases e : j = k
    · subst e; rw [upd_same]; exact this
    · rw [upd_other _ _ _ e]; exact this
  · have := cell_but hb (h.b_ j hj) (h.out k hk).2
    by_cases e : j = k
    · subst e; rw [upd_same]; exact this
    · rw [upd_other _ _ _ e]; exact this
  · obtain ⟨v, hv⟩ := h.la j hj
    exact ⟨v, hv.but hb (h.out k hk).1⟩
  · obtain ⟨v, hv⟩ := h.lb j hj
    exact ⟨v, hv.but hb (h.out k hk).2⟩
  · by_cases e : j = k
    · subst e
      rw [upd_same]
      refine ⟨fun h1 => ?_, fun h1 => ?_⟩
      · rcases hin _ h1 with h3 | h3
        · exact (h.out j hj).1 h3
        · omega
      · rcases hin _ h1 with h3 | h3
        · exact (h.out j hj).2 h3
        · omega
    · rw [upd_other _ _ _ e]; exact h.out j hj
/-- The program's call, then the document's. -/
theorem Pr.two {w w1 w2 : World} {lo : Nat} {e a : Int} {d : Pd} {M : List Int} {pa : Option Addr} {cap : Nat} (h : Pr w lo e a d) (hq : Qu w1 d.g d.b e a M) (hb1 : But (fun k => k = d.b) w w1) (hr : Rf w2 lo d.r e a pa cap M) (hd : Rd w1 w2 d.r d.pa pa) :
    Pr w2 lo e a ⟨d.g, d.b, d.r, pa, cap, M⟩ ∧ But d.In w w2 ∧ ∀ i, Blk pa i → Blk d.pa i ∨ w.heap.size ≤ i := by
  have hon : ∀ i, Blk pa i → Blk d.pa i ∨ w.heap.size ≤ i := fun i hi => by
    rcases hd.on i hi with h1 | h1
    · exact .inl h1
    · exact .inr (Nat.le_trans hb1.size h1)
  have hne : ∀ k, k = d.g ∨ k = d.b → ¬ (k = d.r ∨ Blk d.pa k) := fun k hk h2 => by
    rcases hk with rfl | rfl
    · rcases h2 with h2 | h2
      · exact h.gr.1 h2
      · exact h.gr.2 h2
    · rcases h2 with h2 | h2
      · exact h.br.1 h2
      · exact h.br.2 h2
  refine ⟨⟨hq.but hd.but (hne _ (.inl rfl)) (hne _ (.inr rfl)), hr, ⟨h.gr.1, fun hk => ?_⟩, ⟨h.br.1, fun hk => ?_⟩, h.lg⟩, (hb1.mono (fun k hk => .inr (.inl hk))).trans (hd.but.mono (fun k hk => .inr (.inr hk))), hon⟩
  · rcases hon _ hk with h1 | h1
    · exact h.gr.2 h1
    · have := h.q.glt; simp only at h1; omega
  · rcases hon _ hk with h1 | h1
    · exact h.br.2 h1
    · have := h.q.blt; simp only at h1; omega
theorem Pr.rf1 {w w1 : World} {lo : Nat} {e a : Int} {d : Pd} (h : Pr w lo e a d) (hb1 : But (fun k => k = d.b) w w1) : Rf w1 lo d.r e a d.pa d.cap d.L :=
  h.rf.but hb1 (fun e => h.br.1 e.symm) (fun k hk e => h.br.2 (e ▸ hk))
end Go.Proofs.Ytfeilkhlapnpoaa
