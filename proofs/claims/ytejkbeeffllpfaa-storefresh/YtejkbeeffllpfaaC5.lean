import Derived.Test.YtejkbeeffllpfaaC4
namespace Go.Proofs.Ytejkbeeffllpfaa
open Go.RowKit
set_option linter.unusedVariables false

theorem Arn.ext {w : World} {g pb n : Nat} {t : Nat → Bool} {B C : Nat → Nat → Nat} (h : Arn w g pb n t B) (e : ∀ i j, i < n → j < 64 → C i j = B i j) (hz : ∀ i j, t i = false → C i j = 0) (hs : ∀ i j, C i j < 256) : Arn w g pb n t C :=
  ⟨h.ne, h.le, h.head, h.mark, fun i j hi hj => by rw [e i j hi hj]; exact h.page i j hi hj, h.lt, h.only, hz, hs⟩
theorem wipe_all (g pb n : Nat) (t : Nat → Bool) (B : Nat → Nat → Nat) (p : Nat) (w : World) (h : Arn w g pb n t B) (hp : t p = true) :
    Calls Try.prog 51 #[.pointer (some ⟨pb, p * 64, none⟩)] w fun e w' => e = .returned (.tuple #[]) ∧ Arn w' g pb n t (fun i j => if i = p then 0 else B i j) ∧ But (· = pb) w w' := by
  refine (wipe_any g pb n t B p w h hp).mono ?_
  rintro e w' ⟨rfl, hA, hB⟩
  refine ⟨rfl, hA.ext (fun i j hi hj => ?_) (fun i j hi => ?_) (fun i j => ?_), hB⟩
  · by_cases e : i = p
    · simp [e, hj]
    · simp [e]
  · have := h.zero i j hi
    split <;> simp_all
  · have := h.small i j
    split <;> omega
/-- The marks, as cells. -/
def bls (t : Nat → Bool) : List Value := (List.range 256).map fun j => .bool (t j)
theorem bls_length (t : Nat → Bool) : (bls t).length = 256 := by simp [bls]
theorem bls_get (t : Nat → Bool) (j : Nat) (hj : j < 256) : (bls t)[j]? = some (.bool (t j)) := by simp [bls, hj]
theorem bls_one (t : Nat → Bool) : ∀ u ∈ bls t, u.oneCell' = true := by
  intro u hu
  simp only [bls, List.mem_map] at hu
  obtain ⟨n, _, rfl⟩ := hu
  rfl
theorem size98 : (Try.prog.info? 98).map (·.size) = some 256 := by kernel_rfl
theorem info98 : (Try.prog.info? 98).map (fun i => (i.zero, i.size, i.bytes)) = some (some (.agg (Array.replicate 256 (.bool false))), 256, 256) := by kernel_rfl
/-- The 256 marks at a place. -/
def Rst (w : World) (b o : Nat) (u : Nat → Bool) : Prop := ∀ j, j < 256 → Lies w ⟨b, o + j, none⟩ (.bool (u j))
theorem Rst.but {S : Nat → Prop} {w w' : World} {b o : Nat} {u : Nat → Bool} (hb : But S w w') (h : Rst w b o u) (hn : ¬ S b) : Rst w' b o u := fun j hj => (h j hj).but hb hn
theorem Rst.range {w : World} {b o : Nat} {u : Nat → Bool} (h : Rst w b o u) : w.rangeAt b o (bls u) := fun j v hv => by
  have hj : j < 256 := by have := (List.getElem?_eq_some_iff.1 hv).1; rwa [bls_length] at this
  rw [bls_get _ _ hj] at hv
  cases hv
  exact (h j hj).1
theorem load98 {w : World} {b o : Nat} {u : Nat → Bool} (h : Rst w b o u) : (Instr.loadAt 98 (.pointer (some ⟨b, o, none⟩))).run Try.prog w = .ok (.agg (bls u).toArray) w :=
  run_loadAt_mid (P := Try.prog) w b o 98 _ _ h.range Try.underlying98 rfl (by rw [size98, bls_length])
theorem store98 {w : World} {b o : Nat} {v : Nat → Bool} (h : Rst w b o v) (u : Nat → Bool) : (storeCells ⟨b, o, none⟩ (bls u)).run Try.prog w = .ok () (w.setCells b o (bls u)) :=
  run_storeCells_cells (P := Try.prog) b o (bls u) 0 w (fun j hj => by rw [bls_length] at hj; rw [Nat.add_zero, (h j hj).1]; rfl) (fun j hj => by rw [bls_length] at hj; rw [Nat.add_zero]; exact (h j hj).2) (bls_one u)
theorem Rst.put {w : World} {b o : Nat} {v : Nat → Bool} (h : Rst w b o v) (u : Nat → Bool) : Rst (w.setCells b o (bls u)) b o u := fun j hj => by
  refine ⟨?_, by rw [World.frozen?_setCells]; exact (h j hj).2⟩
  rw [World.cell?_setCells_in b (bls u) o w (fun i hi => by rw [bls_length] at hi; rw [(h i hi).1]; rfl) j (by rw [bls_length]; exact hj)]
  simp [bls]
theorem Rst.set {w : World} {b o k : Nat} {v u : Nat → Bool} {x : Bool} (h : Rst w b o v) (hk : k < 256) (hu : ∀ i, u i = if i = k then x else v i) : Rst (w.setCell ⟨b, o + k, none⟩ (.bool x)) b o u := fun j hj => by
  rw [hu j]
  by_cases e : j = k
  · subst e
    rw [if_pos rfl]
    exact (h j hj).put
  · rw [if_neg e]
    exact (h j hj).other (fun e2 => e (by have := congrArg Addr.off e2; simp at this; omega))
theorem rst_new (w : World) : Rst (w.alloc (.cells (Array.replicate 256 (.bool false)) 98)) w.heap.size 0 (fun _ => false) := fun j hj => by
  have hh := heap_alloc_new w (.cells (Array.replicate 256 (.bool false)) 98)
  exact ⟨by rw [cell_of_row _ _ _ _ _ _ hh]; simp [hj], by simp only [World.frozen?, hh]; simp⟩

/-- May these be given? -/
def gOk (n : Nat) (t : Nat → Bool) (l : List Int) : Prop := (∀ x ∈ l, thr n x = true ∧ t x.toNat = true) ∧ l.Nodup
def gT (t : Nat → Bool) (l : List Int) : Nat → Bool := fun j => t j && !decide ((j : Int) ∈ l)
def gB (B : Nat → Nat → Nat) (l : List Int) : Nat → Nat → Nat := fun i j => if (i : Int) ∈ l then 0 else B i j
theorem Arn.marks {w : World} {g pb n : Nat} {t u : Nat → Bool} {B : Nat → Nat → Nat} (h : Arn w g pb n t B) (hu : ∀ i, u i = true → i < n) (hz : ∀ i j, u i = false → B i j = 0) : Arn (w.setCells g 1 (bls u)) g pb n u B := by
  have hR : Rst w g 1 t := h.mark
  have hne := h.ne
  refine ⟨h.ne, h.le, ?_, hR.put u, fun i j hi hj => ⟨?_, ?_⟩, by rw [size_setCells]; exact h.lt, hu, hz, h.small⟩
  · rw [World.cell?_setCells_out _ _ _ _ _ (fun _ _ => .inl (show 0 < 1 by omega))]
    exact h.head
  · rw [World.cell?_setCells_out _ _ _ _ _ (fun e => absurd e.symm hne)]
    exact (h.page i j hi hj).1
  · rw [World.frozen?_setCells]
    exact (h.page i j hi hj).2
def GiveRel1 (w : World) (n : Nat) (t : Nat → Bool) (l : List Int) (rb : Nat) (v : Value) (w' : World) : Prop :=
  ∃ i : Nat, v = .int .i64 (i : Int) ∧ i ≤ l.length ∧ gOk n t (l.take i) ∧ Rst w' rb 0 (gT t (l.take i)) ∧ Below w.heap.size w w'
def GiveRel2 (w1 : World) (g pb n : Nat) (t : Nat → Bool) (B : Nat → Nat → Nat) (l : List Int) (v : Value) (w' : World) : Prop :=
  ∃ i : Nat, v = .int .i64 (i : Int) ∧ i ≤ l.length ∧ Arn w' g pb n t (gB B (l.take i)) ∧ But (· = pb) w1 w'
theorem take_step (l : List Int) (i : Nat) (h : i < l.length) : l.take (i + 1) = l.take i ++ [l[i]] := by
  rw [List.take_add_one, List.getElem?_eq_getElem h]; rfl
theorem gOk_not_thr {n : Nat} {t : Nat → Bool} {l : List Int} {i : Nat} (hi : i < l.length) (h : thr n l[i] = false) : ¬ gOk n t l := fun hg => by
  have := (hg.1 _ (List.getElem_mem hi)).1
  rw [h] at this
  cases this
theorem gOk_not_in {n : Nat} {t : Nat → Bool} {l : List Int} {i k : Nat} (hi : i < l.length) (hk : l[i] = (k : Int)) (h : gT t (l.take i) k = false) : ¬ gOk n t l := fun hg => by
  have h1 := (hg.1 _ (List.getElem_mem hi)).2
  rw [hk, Int.toNat_natCast] at h1
  simp only [gT, h1, Bool.true_and, Bool.not_eq_false', decide_eq_true_eq] at h
  have h2 := (List.take_sublist (i + 1) l).nodup hg.2
  rw [take_step l i hi, hk, List.nodup_append] at h2
  exact h2.2.2 _ h _ (by simp) rfl
theorem gOk_next {n : Nat} {t : Nat → Bool} {l : List Int} {i k : Nat} (hi : i < l.length) (hk : l[i] = (k : Int)) (hkn : k < n) (h : gT t (l.take i) k = true) (hg : gOk n t (l.take i)) : gOk n t (l.take (i + 1)) := by
  simp only [gT, Bool.and_eq_true, Bool.not_eq_true', decide_eq_false_iff_not] at h
  rw [take_step l i hi, hk]
  refine ⟨fun x hx => ?_, ?_⟩
  · rcases List.mem_append.1 hx with h1 | h1
    · exact hg.1 x h1
    · simp only [List.mem_singleton] at h1
      subst h1
      exact ⟨decide_eq_true (by omega), by rw [Int.toNat_natCast]; exact h.1⟩
  · rw [List.nodup_append]
    refine ⟨hg.2, by simp, fun x hx y hy e => ?_⟩
    simp only [List.mem_singleton] at hy
    rw [e, hy] at hx
    exact h.2 hx
theorem gT_next {t : Nat → Bool} {l : List Int} {i k : Nat} (hi : i < l.length) (hk : l[i] = (k : Int)) (j : Nat) : gT t (l.take (i + 1)) j = if j = k then false else gT t (l.take i) j := by
  rw [take_step l i hi, hk]
  simp only [gT, List.mem_append, List.mem_singleton]
  by_cases e : j = k
  · simp [e]
  · have : ¬ (j : Int) = (k : Int) := by omega
    simp [e, this]
theorem gB_next {B : Nat → Nat → Nat} {l : List Int} {i k : Nat} (hi : i < l.length) (hk : l[i] = (k : Int)) : gB B (l.take (i + 1)) = fun x j => if x = k then 0 else gB B (l.take i) x j := by
  funext x j
  rw [take_step l i hi, hk]
  simp only [gB, List.mem_append, List.mem_singleton]
  by_cases e : x = k
  · simp [e]
  · have : ¬ (x : Int) = (k : Int) := by omega
    simp [e, this]
set_option maxRecDepth 100000 in
set_option maxHeartbeats 1000000 in
theorem give_any (g pb n : Nat) (t : Nat → Bool) (B : Nat → Nat → Nat) (a : Option Addr) (m cap : Nat) (l : List Int) (w : World) (h : Arn w g pb n t B) (hR : Row w a m cap (ints l)) (hm63 : m < 9223372036854775807) (hap : ∀ k, Blk a k → k ≠ pb) :
    Calls Try.prog 32 #[.pointer (some ⟨g, 0, none⟩), .slice a m cap] w fun e w' => (gOk n t l ∧ e = .returned (.int .i64 0) ∧ Arn w' g pb n (gT t l) (gB B l) ∧ But (fun k => k = g ∨ k = pb) w w') ∨ (¬ gOk n t l ∧ e = .returned (.int .i64 20) ∧ Below w.heap.size w w') := by
  have HLD := hid (load98 (w := w) (b := g) (o := 1) h.mark)
  have hz := zero_of info98
  obtain ⟨Z, hZ⟩ : ∃ Z, Z = Array.replicate 256 (Value.bool false) := ⟨_, rfl⟩
  have hr0 := rst_new w
  rw [← hZ] at hz hr0
  have hst := store98 hr0 t
  have hR1 := hr0.put t
  obtain ⟨L, hL⟩ : ∃ L, L = bls t := ⟨_, rfl⟩
  have hll : L.length = 256 := by rw [hL, bls_length]
  rw [← hL] at hst HLD hR1
  obtain ⟨w1, hw1⟩ : ∃ w1, w1 = (w.alloc (.cells Z 98)).setCells w.heap.size 0 L := ⟨_, rfl⟩
  rw [← hw1] at hst hR1
  have hB1 : Below w.heap.size w w1 := by
    rw [hw1]
    exact But.below (S := (· = w.heap.size)) (below1 w (.cells Z 98)) (But.setCells (S := (· = w.heap.size)) (show w.heap.size = w.heap.size from rfl) L 0 (But.refl _ _)) (fun k hk => by rw [hk]; exact Nat.le_refl _)
  have HB1 := hid hB1
  have HR1 := hid hR1
  have H := hid h
  have HR := hid hR
  have hgl := h.glt
  have hpl := h.lt
  have hn := h.le
  have hlen : l.length = m := by have := hR.len; rwa [ints_length] at this
  have HAP := hid hap
  clear h hR hL hZ hr0 hR1 hw1 hB1 hap
  go_enter Try.func32, Try.ntmps32
  go_upto_region 2 with (first | ((with_reducible refine ld_arm HLD.out ?_ ?_); · rfl))
  clear HLD hz hst hll
  go_upto_region 3 with fail
  go_loopw [16] (GiveRel1 w n t l w.heap.size) (fun k _ => m - (intOf k).toNat)
  case atStart => exact ⟨0, rfl, Nat.zero_le _, ⟨fun x hx => by simp at hx, by simp⟩, by
    have e : gT t (l.take 0) = t := by funext j; simp [gT]
    rw [e]; exact HR1.out, HB1.out⟩
  case round =>
    clear HR1 HB1
    obtain ⟨i, rfl, hi, hok, hrst, hB⟩ := hrel
    have HRS := hid hrst
    have HB := hid hB
    have HOK := hid hok
    clear hrst hB hok
    by_cases hlt : i < m
    · have hd : decide ((i : Int) < (m : Int)) = true := decide_eq_true (by omega)
      obtain ⟨b, o, rfl, hc⟩ := HR.out.plain (by omega)
      have y := cell_later HB.out (hc i _ (ints_get l i (by omega)))
      have hx := (H.out.later HB.out).head
      obtain ⟨q, hq⟩ : ∃ q, q = l[i] := ⟨_, rfl⟩
      rw [← hq] at y
      have HQ := hid hq
      clear hc hq
      have hil : i < l.length := by omega
      cases hth : thr n q with
      | false =>
        go_wp2_with (first | (go_at_call 50; refine (there_any g pb n q _ hx).mono ?_; rintro e w2 ⟨rfl, rfl⟩; rw [hth]))
        go_ret
        exact .inr ⟨gOk_not_thr hil (by rw [← HQ.out]; exact hth), rfl, HB.out⟩
      | true =>
        obtain ⟨k, rfl⟩ : ∃ k : Nat, q = (k : Int) := ⟨q.toNat, by simp [thr] at hth; omega⟩
        have hkn : k < n := by simp [thr] at hth; omega
        have hk2 : k < 256 := by omega
        have z := HRS.out k hk2
        rw [Nat.zero_add] at z
        have z1 := z.1
        have z2 := z.2
        clear z
        cases hg : gT t (l.take i) k with
        | false =>
          rw [hg] at z1
          go_wp2_with (first | (go_at_call 50; refine (there_any g pb n (k : Int) _ hx).mono ?_; rintro e w2 ⟨rfl, rfl⟩; rw [hth]))
          go_ret
          exact .inr ⟨gOk_not_in hil HQ.out.symm hg, rfl, HB.out⟩
        | true =>
          rw [hg] at z1
          have HN : Hid (Rst (wr.setCell ⟨w.heap.size, k, none⟩ (.bool false)) w.heap.size 0 (gT t (l.take (i + 1)))) := hid (by
            have := HRS.out.set (x := false) hk2 (gT_next (t := t) hil HQ.out.symm)
            rwa [Nat.zero_add] at this)
          have HNB : Hid (Below w.heap.size w (wr.setCell ⟨w.heap.size, k, none⟩ (.bool false))) := HB.out.setCell (Nat.le_refl _) _
          have HNO := hid (gOk_next hil HQ.out.symm hkn hg HOK.out)
          go_wp2_with (first | (go_at_call 50; refine (there_any g pb n (k : Int) _ hx).mono ?_; rintro e w2 ⟨rfl, rfl⟩; rw [hth]))
          exact ⟨⟨i + 1, rfl, by omega, HNO.out, HN.out, HNB.out⟩, by simp [intOf]; omega⟩
    · obtain rfl : i = m := by omega
      have hd : decide ((i : Int) < (i : Int)) = false := by simp
      have e0 : l.take i = l := by rw [List.take_of_length_le (by omega)]
      rw [e0] at HRS HOK
      have HA1 := hid (H.out.later HB.out)
      have HRW := hid (HR.out.later HB.out)
      go_upto_region 10 with fail
      go_loopw [35] (GiveRel2 wr g pb n t B l) (fun k _ => i - (intOf k).toNat)
      case atStart => exact ⟨0, rfl, Nat.zero_le _, HA1.out.congr (by funext x j; simp [gB]), But.refl _ _⟩
      case round =>
        obtain ⟨j, rfl, hj, hA, hBt⟩ := hrel
        rename World => wq
        have HA := hid hA
        have HBt := hid hBt
        clear hA hBt
        by_cases hjl : j < i
        · have hd2 : decide ((j : Int) < (i : Int)) = true := decide_eq_true (by omega)
          have hil : j < l.length := by omega
          obtain ⟨b, o, rfl, hc⟩ := HRW.out.plain (by omega)
          have hbn : b ≠ pb := HAP.out b ⟨_, rfl, rfl⟩
          have y := cell_but HBt.out (hc j _ (ints_get l j hil)) hbn
          have hx := HA.out.head
          obtain ⟨hq1, hq2⟩ := HOK.out.1 _ (List.getElem_mem hil)
          obtain ⟨k, hk⟩ : ∃ k : Nat, l[j] = (k : Int) := ⟨l[j].toNat, by simp [thr] at hq1; omega⟩
          rw [hk] at y hq1 hq2
          rw [Int.toNat_natCast] at hq2
          have hkn : k < n := by simp [thr] at hq1; omega
          have HK := hid hk
          clear hc hk hq1
          go_wp2_with (first | (go_at_call 51; refine (wipe_all g pb n t (gB B (l.take j)) k _ HA.out hq2).mono ?_; rintro e w2 ⟨rfl, A2, B2⟩; have HA2 := hid A2; have HB2 := hid (HBt.out.trans B2); clear A2 B2))
          exact ⟨⟨j + 1, rfl, by omega, HA2.out.congr (gB_next hil HK.out).symm, HB2.out⟩, by simp [intOf]; omega⟩
        · obtain rfl : j = i := by omega
          have hd2 : decide ((j : Int) < (j : Int)) = false := by simp
          rw [e0] at HA
          have hne : w.heap.size ≠ pb := by omega
          have hR2 := HRS.out.but HBt.out hne
          have HLD := hid (load98 hR2)
          have hm : Rst wq g 1 t := HA.out.mark
          have hst := store98 hm (gT t l)
          have HN := hid (HA.out.marks (u := gT t l) (fun x hx => HA.out.only x (by simp [gT] at hx; exact hx.1)) (fun x y hx => by
            by_cases e : (x : Int) ∈ l
            · simp [gB, e]
            · have : t x = false := by simpa [gT, e] using hx
              have := HA.out.zero x y this
              simpa [gB, e] using this))
          obtain ⟨L2, hL2⟩ : ∃ L, L = bls (gT t l) := ⟨_, rfl⟩
          have hll : L2.length = 256 := by rw [hL2, bls_length]
          rw [← hL2] at HLD hst HN
          have HNB : Hid (But (fun k => k = g ∨ k = pb) w (wq.setCells g 1 L2)) := But.setCells (S := fun k => k = g ∨ k = pb) (.inl rfl) L2 1 ((But.of HB.out).trans (HBt.out.mono (fun _ h => .inr h)))
          clear hR2 hm hL2
          go_wp2_with (first | ((with_reducible refine ld_arm HLD.out ?_ ?_); · rfl))
          go_ret
          exact .inl ⟨HOK.out, rfl, HN.out, HNB.out⟩
end Go.Proofs.Ytejkbeeffllpfaa
