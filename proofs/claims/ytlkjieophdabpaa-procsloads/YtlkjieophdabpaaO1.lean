import Derived.Test.YtlkjieophdabpaaM1
namespace Go.Proofs.Ytlkjieophdabpaa
open Go.RowKit
set_option linter.unusedVariables false

/-- Three cells: the most, the next, the list, in memory of its own. -/
structure Ob (w : World) (base g : Nat) (m x : Int) (pa : Option Addr) (cap : Nat) (L : List Int) : Prop where
  c0 : w.cell? ⟨g, 0, none⟩ = some (.int .i64 m)
  c1 : Lies w ⟨g, 1, none⟩ (.int .i64 x)
  c2 : Lies w ⟨g, 2, none⟩ (.slice pa L.length cap)
  own : Own w base 3 pa L.length cap (ints L)
  ap : ∀ k, Blk pa k → k ≠ g
  lo : base ≤ g
variable {w w' : World} {base g : Nat} {m x : Int} {pa : Option Addr} {cap : Nat} {L : List Int}
theorem Ob.lt (h : Ob w base g m x pa cap L) : g < w.heap.size := World.block_lt_of_cell? _ _ h.c0
theorem Ob.but {S : Nat → Prop} (h : Ob w base g m x pa cap L) (hb : But S w w') (h1 : ¬ S g) (h2 : ∀ k, Blk pa k → ¬ S k) : Ob w' base g m x pa cap L :=
  ⟨cell_but hb h.c0 h1, h.c1.but hb h1, h.c2.but hb h1, h.own.but hb h2, h.ap, h.lo⟩
theorem Ob.later (h : Ob w base g m x pa cap L) (hb : Below w.heap.size w w') : Ob w' base g m x pa cap L := h.but (S := fun _ => False) (But.of hb) (fun h => h) (fun _ _ h => h)
theorem Ob.hb (h : Ob w base g m x pa cap L) : base ≤ w.heap.size := by have := h.lo; have := h.lt; omega
/-- What a call may write: the struct and the list. -/
structure Rd (w w' : World) (g : Nat) (pa pa' : Option Addr) : Prop where
  but : But (fun k => k = g ∨ Blk pa k) w w'
  on : ∀ k, Blk pa' k → Blk pa k ∨ w.heap.size ≤ k
theorem Rd.refl (g : Nat) (pa : Option Addr) (h : Below w.heap.size w w') : Rd w w' g pa pa := ⟨But.of h, fun _ h => .inl h⟩
theorem Rd.below {pa' : Option Addr} {u : World} (h : Rd w w' g pa pa') (ho : Ob w base g m x pa cap L) (hb : Below base u w) : Below base u w' :=
  ⟨h.but.os.trans hb.os, h.but.tape.trans hb.tape, h.but.output.trans hb.output, Nat.le_trans hb.size h.but.size, fun k hk => (h.but.block k (by have := ho.hb; omega) (fun e => by
    rcases e with e | e
    · have := ho.lo; omega
    · have := ho.own.blk k e; omega)).trans (hb.block k hk)⟩
/-- A list is put into the struct. -/
theorem Ob.put {pb : Option Addr} {c : Nat} {M : List Int} (h : Ob w base g m x pa cap L) (hG : Gr pa pb w w') (ho : Own w' base 3 pb M.length c (ints M)) : Ob (w'.setCell ⟨g, 2, none⟩ (.slice pb M.length c)) base g m x pb c M ∧ Rd w (w'.setCell ⟨g, 2, none⟩ (.slice pb M.length c)) g pa pb := by
  have hn : ¬ Blk pa g := fun e => h.ap g e rfl
  have hap : ∀ k, Blk pb k → k ≠ g := fun k hk => by
    rcases hG.on k hk with e | e
    · exact h.ap k e
    · have := h.lt; omega
  exact ⟨⟨by rw [World.cell?_setCell_other _ _ _ _ (by simp)]; exact cell_but hG.but h.c0 hn, (h.c1.but hG.but hn).other (by simp), (h.c2.but hG.but hn).put, ho.but ((But.refl (fun k => k = g) w').setCell (p := ⟨g, 2, none⟩) rfl _) hap, hap, h.lo⟩,
    (hG.but.mono (fun k hk => .inr hk)).setCell (.inl rfl) _, fun k hk => hG.on k hk⟩
/-- Another next number. -/
theorem Ob.setX (h : Ob w base g m x pa cap L) (y : Int) : Ob (w.setCell ⟨g, 1, none⟩ (.int .i64 y)) base g m y pa cap L ∧ But (fun k => k = g) w (w.setCell ⟨g, 1, none⟩ (.int .i64 y)) := by
  have hb : But (fun k => k = g) w (w.setCell ⟨g, 1, none⟩ (.int .i64 y)) := (But.refl (fun k => k = g) w).setCell (p := ⟨g, 1, none⟩) rfl _
  exact ⟨⟨by rw [World.cell?_setCell_other _ _ _ _ (by simp)]; exact h.c0, h.c1.put, h.c2.other (by simp), h.own.but hb h.ap, h.ap, h.lo⟩, hb⟩
set_option maxRecDepth 100000 in
set_option maxHeartbeats 1000000 in
theorem put_any (h : Ob w base g m x pa cap L) (hs : Rise L) (hl : L.length ≤ 4096) (v : Int) (hv : ∀ y ∈ L, y < v) :
    Calls Try.prog 22 #[.pointer (some ⟨g, 2, none⟩), .int .i64 v] w fun e w' => ∃ pa' cap', e = .returned (.tuple #[]) ∧ Ob w' base g m x pa' cap' (L ++ [v]) ∧ Rd w w' g pa pa' := by
  have hse := hid (search_any h.own (by omega) hs.le v)
  rw [countP_all hv, contains_not hv] at hse
  have c2 := h.c2.1
  have hQ := hid (fun (U : World) (hU : Below w.heap.size w U) => h.later hU)
  clear h hs hv
  go_enter Try.func22, Try.ntmps22
  go_upto_region 2 with (first | (go_at_call 31; refine hse.out.mono ?_; rintro e w1 ⟨rfl, hq⟩; have HB1 : Hid (Below w.heap.size w w1) := (by obtain ⟨q, rfl⟩ := hq; exact below_drewN (Below.refl _ _) q); clear hq))
  have hR1 := hQ.out _ HB1.out
  have hin := hid (insert_end hR1.own hR1.hb hl v)
  have d2 := hR1.c2.1
  have HR1 := hid hR1
  have hst : Hid (∀ a' cap' w2, Own w2 base 3 a' (L.length + 1) cap' (ints (L ++ [v])) → Gr pa a' w1 w2 → Lies w2 ⟨g, 2, none⟩ (.slice pa L.length cap) ∧ Ob (w2.setCell ⟨g, 2, none⟩ (.slice a' (L.length + 1) cap')) base g m x a' cap' (L ++ [v]) ∧ Rd w (w2.setCell ⟨g, 2, none⟩ (.slice a' (L.length + 1) cap')) g pa a') := fun a' cap' w2 ho hG => by
    have hlen : (L ++ [v]).length = L.length + 1 := by simp
    rw [← hlen] at ho ⊢
    obtain ⟨p1, p2⟩ := HR1.out.put hG ho
    refine ⟨HR1.out.c2.but hG.but (fun e => HR1.out.ap g e rfl), p1, (But.of HB1.out).trans p2.but, fun k hk => ?_⟩
    rcases p2.on k hk with e | e
    · exact .inl e
    · exact .inr (Nat.le_trans HB1.out.size e)
  clear hR1 HR1 hse
  go_wp2_with (first | (go_at_call 32; refine hin.out.mono ?_; rintro e w2 ⟨a', cap', rfl, ho, hG⟩; obtain ⟨⟨e2, f2⟩, hfin⟩ := hst.out _ _ _ ho hG; have HFIN := hid hfin; clear hfin ho hG))
  exact bodyPost_end (by simp [results, Try.results22, go_sem]) rfl ⟨a', cap', rfl, HFIN.out.1, HFIN.out.2⟩
set_option maxRecDepth 100000 in
theorem many_any (h : Ob w base g m x pa cap L) : Calls Try.prog 23 #[.pointer (some ⟨g, 2, none⟩)] w fun e w' => e = .returned (.int .i64 (L.length : Int)) ∧ w' = w := by
  have c2 := h.c2.1
  clear h
  go_enter Try.func23, Try.ntmps23
  go_wp2
  go_ret
  exact ⟨rfl, rfl⟩
set_option maxRecDepth 100000 in
theorem has_any (h : Ob w base g m x pa cap L) (hs : Rise L) (hl : L.length ≤ 4096) (v : Int) : Calls Try.prog 24 #[.pointer (some ⟨g, 2, none⟩), .int .i64 v] w fun e w' => e = .returned (.bool (L.contains v)) ∧ ∃ q, w' = w.drewN q := by
  have hse := hid (search_any h.own (by omega) hs.le v)
  have c2 := h.c2.1
  clear h hs
  generalize L.contains v = bb at *
  go_enter Try.func24, Try.ntmps24
  go_wp2_with (first | (go_at_call 31; refine hse.out.mono ?_; rintro e w1 ⟨rfl, hq⟩; have HQ := hid hq; clear hq))
  go_ret
  exact ⟨rfl, HQ.out⟩
set_option maxRecDepth 100000 in
theorem all_any (h : Ob w base g m x pa cap L) (hl : L.length ≤ 4096) : Calls Try.prog 26 #[.pointer (some ⟨g, 2, none⟩)] w fun e w' => ∃ p c, e = .returned (.slice p L.length c) ∧ Own w' w.heap.size 3 p L.length c (ints L) ∧ Below w.heap.size w w' := by
  have hc := hid (clone_own h.own hl)
  have c2 := h.c2.1
  clear h
  go_enter Try.func26, Try.ntmps26
  go_wp2_with (first | (go_at_call 34; refine hc.out.mono ?_; rintro e w1 ⟨p, c, rfl, ho, hb⟩; have HO := hid ho; have HB := hid hb; clear ho hb))
  go_ret
  exact ⟨p, c, rfl, HO.out, HB.out⟩
set_option maxRecDepth 100000 in
theorem below_any (h : Ob w base g m x pa cap L) (hs : Rise L) (hl : L.length ≤ 4096) (v : Int) : Calls Try.prog 27 #[.pointer (some ⟨g, 2, none⟩), .int .i64 v] w fun e w' => e = .returned (.bool (under L v)) ∧ w' = w := by
  have c2 := h.c2.1
  have HO := hid h.own
  clear h
  by_cases h0 : L.length = 0
  · have hL : L = [] := List.eq_nil_of_length_eq_zero h0
    have hu : under L v = true := by rw [hL]; exact under_nil v
    rw [hu]
    have hd : ((L.length : Int) == 0) = true := by simp [h0]
    clear hu hL
    go_enter Try.func27, Try.ntmps27
    go_wp2
    go_ret
    exact ⟨rfl, rfl⟩
  · obtain ⟨k, hk⟩ : ∃ k, L.length = k + 1 := ⟨L.length - 1, by omega⟩
    have hu := under_last (v := v) hs k hk
    rw [hu]
    obtain ⟨b, o, rfl, hc⟩ := HO.out.read.plain (by omega)
    have y1 := hc k _ (ints_get L k (by omega))
    obtain ⟨y, hy⟩ : ∃ y, y = L[k]'(by omega) := ⟨_, rfl⟩
    rw [← hy] at y1 ⊢
    rw [hk] at c2
    have hd : ((k : Int) + 1 == 0) = false := by simp; omega
    have hk2 : k < 4096 := by omega
    clear hc hy hu hk h0 hl HO
    go_enter Try.func27, Try.ntmps27
    go_wp2
    go_ret
    exact ⟨rfl, rfl⟩
set_option maxRecDepth 100000 in
set_option maxHeartbeats 1000000 in
theorem drop_yes (h : Ob w base g m x pa cap L) (hs : Rise L) (hl : L.length ≤ 4096) (v : Int) (hv : v ∈ L) :
    Calls Try.prog 25 #[.pointer (some ⟨g, 2, none⟩), .int .i64 v] w fun e w' => ∃ cap', e = .returned (.bool true) ∧ Ob w' base g m x pa cap' (out L v) ∧ Rd w w' g pa pa := by
  have hse := hid (search_any h.own (by omega) hs.le v)
  obtain ⟨hi, ho⟩ := out_at hs hv
  have hol := out_len hs hv
  obtain ⟨i, hii⟩ : ∃ i, i = L.countP (· < v) := ⟨_, rfl⟩
  have hcv : L.contains v = true := by simpa using hv
  rw [← hii, hcv] at hse
  rw [← hii] at hi ho
  obtain ⟨ga, rfl⟩ := h.own.form (by omega)
  have c2 := h.c2.1
  have hQ := hid (fun (U : World) (hU : Below w.heap.size w U) => h.later hU)
  have HO := hid ho
  have hgn : Hid (∀ k, k = ga ↔ Blk (some ⟨ga, 0, none⟩) k) := fun k => ⟨fun e => ⟨_, rfl, e.symm⟩, fun ⟨_, e1, e2⟩ => by cases e1; exact e2.symm⟩
  clear h hs hv hii hcv ho
  go_enter Try.func25, Try.ntmps25
  go_upto_region 3 with (first | (go_at_call 31; refine hse.out.mono ?_; rintro e w1 ⟨rfl, hq⟩; have HB1 : Hid (Below w.heap.size w w1) := (by obtain ⟨q, rfl⟩ := hq; exact below_drewN (Below.refl _ _) q); clear hq))
  have hR1 := hQ.out _ HB1.out
  have hde := hid (delete_own hR1.own i hi)
  have d2 := hR1.c2.1
  have HR1 := hid hR1
  have hst : Hid (∀ w2, Own w2 base 3 (some ⟨ga, 0, none⟩) (L.length - 1) cap (ints (L.take i ++ L.drop (i + 1))) → But (fun k => k = ga) w1 w2 → Lies w2 ⟨g, 2, none⟩ (.slice (some ⟨ga, 0, none⟩) L.length cap) ∧ Ob (w2.setCell ⟨g, 2, none⟩ (.slice (some ⟨ga, 0, none⟩) (L.length - 1) cap)) base g m x (some ⟨ga, 0, none⟩) cap (out L v) ∧ Rd w (w2.setCell ⟨g, 2, none⟩ (.slice (some ⟨ga, 0, none⟩) (L.length - 1) cap)) g (some ⟨ga, 0, none⟩) (some ⟨ga, 0, none⟩)) := fun w2 ho hb => by
    have hlen : L.length - 1 = (out L v).length := by omega
    rw [HO.out, hlen] at ho
    rw [hlen]
    have hG : Gr (some ⟨ga, 0, none⟩) (some ⟨ga, 0, none⟩) w1 w2 := ⟨hb.mono (fun k hk => (hgn.out k).1 hk), fun k hk => .inl hk⟩
    obtain ⟨p1, p2⟩ := HR1.out.put hG ho
    refine ⟨HR1.out.c2.but hG.but (fun e => HR1.out.ap g e rfl), p1, (But.of HB1.out).trans p2.but, fun k hk => .inl hk⟩
  clear hR1 HR1 hse hol
  go_wp2_with (first | (go_at_call 33; refine hde.out.mono ?_; rintro e w2 ⟨rfl, ho, hb⟩; obtain ⟨⟨e2, f2⟩, hfin⟩ := hst.out _ ho hb; have HFIN := hid hfin; clear hfin ho hb))
  go_ret
  exact ⟨cap, rfl, HFIN.out.1, HFIN.out.2⟩
set_option maxRecDepth 100000 in
set_option maxHeartbeats 1000000 in
theorem drop_no (h : Ob w base g m x pa cap L) (hs : Rise L) (hl : L.length ≤ 4096) (v : Int) (hv : v ∉ L) :
    Calls Try.prog 25 #[.pointer (some ⟨g, 2, none⟩), .int .i64 v] w fun e w' => e = .returned (.bool false) ∧ ∃ q, w' = w.drewN q := by
  have hse := hid (search_any h.own (by omega) hs.le v)
  have hcv : L.contains v = false := by simpa using hv
  rw [hcv] at hse
  have c2 := h.c2.1
  clear h hs hv hcv
  go_enter Try.func25, Try.ntmps25
  go_wp2_with (first | (go_at_call 31; refine hse.out.mono ?_; rintro e w1 ⟨rfl, hq⟩; have HQ := hid hq; clear hq))
  go_ret
  exact ⟨rfl, HQ.out⟩
end Go.Proofs.Ytlkjieophdabpaa
