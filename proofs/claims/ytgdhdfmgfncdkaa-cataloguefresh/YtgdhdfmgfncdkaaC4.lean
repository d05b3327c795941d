import Derived.Test.YtgdhdfmgfncdkaaC3
namespace Go.Proofs.Ytgdhdfmgfncdkaa
open Go.RowKit
set_option linter.unusedVariables false

/-- One cell of the nodes is written. -/
theorem Tm.cell {w : World} {g gb m : Nat} {N N' : List Nd} {o : Nat} {u : Value} (h : Tm w g gb m N) (hl : N'.length = m)
    (hat : ∀ (i : Nat) (x : Nd), N'[i]? = some x → Pn (w.setCell ⟨gb, o, none⟩ u) gb (i * 4) x) : Tm (w.setCell ⟨gb, o, none⟩ u) g gb m N' :=
  ⟨cell_nb h.a0 h.ne, fun j => by simpa using h.fr j, hat, h.ne, by simpa [World.setCell] using h.lt2, hl, h.big⟩
theorem Pn.off {w : World} {b o o' : Nat} {x : Nd} {u : Value} (h : Pn w b o x) (hne : o' < o ∨ o + 4 ≤ o') : Pn (w.setCell ⟨b, o', none⟩ u) b o x :=
  ⟨cell_ne h.c0 (by omega), cell_ne h.c1 (by omega), cell_ne h.c2 (by omega), cell_ne h.c3 (by omega)⟩
theorem Tm.setPa {w : World} {g gb m : Nat} {N : List Nd} {i : Nat} {x : Nd} (h : Tm w g gb m N) (hx : N[i]? = some x) (v : Int) : Tm (w.setCell ⟨gb, i * 4 + 1, none⟩ (.int .i64 v)) g gb m (N.set i ⟨x.th, v, x.fi, x.be⟩) := by
  refine h.cell (by rw [List.length_set]; exact h.len) (fun j q hq => ?_)
  rcases get_set hq with ⟨rfl, rfl⟩ | ⟨hne, h3⟩
  · have hP := h.at_ _ _ hx
    exact ⟨cell_ne hP.c0 (by omega), World.cell?_setCell_same _ _ _ hP.c1, cell_ne hP.c2 (by omega), cell_ne hP.c3 (by omega)⟩
  · exact (h.at_ _ _ h3).off (by omega)
theorem Tm.setLk {w : World} {g gb m : Nat} {N : List Nd} (h : Tm w g gb m N) {p : Nat} {c : List Int} (hc : Chain N p c) {i : Nat} (hi : i ≤ c.length) (v : Int) :
    Tm (w.setCell ⟨gb, lkN p c i * 4 + lkF i, none⟩ (.int .i64 v)) g gb m (putL N p c i v) := by
  obtain ⟨h1, h2⟩ := Chain.cell h hc hi
  obtain ⟨x, hx⟩ := get_some (L := N) (i := lkN p c i) (by rw [h.len]; exact h1)
  unfold putL
  rw [hx]
  generalize lkN p c i = k at *
  refine h.cell (by rw [List.length_set]; exact h.len) (fun j q hq => ?_)
  rcases get_set hq with ⟨rfl, rfl⟩ | ⟨hne, h3⟩
  · have hP := h.at_ _ _ hx
    cases i with
    | zero => exact ⟨cell_ne hP.c0 (by simp [lkF]), cell_ne hP.c1 (by simp [lkF]), World.cell?_setCell_same _ _ _ hP.c2, cell_ne hP.c3 (by simp [lkF])⟩
    | succ i => exact ⟨cell_ne hP.c0 (by simp [lkF]), cell_ne hP.c1 (by simp [lkF]), cell_ne hP.c2 (by simp [lkF]), World.cell?_setCell_same _ _ _ hP.c3⟩
  · have : lkF i < 4 := by cases i <;> simp [lkF]
    exact (h.at_ _ _ h3).off (by omega)
/-- A whole node is written. -/
def setN (w : World) (b o : Nat) (x : Nd) : World :=
  (((w.setCell ⟨b, o, none⟩ (.bool x.th)).setCell ⟨b, o + 1, none⟩ (.int .i64 x.pa)).setCell ⟨b, o + 2, none⟩ (.int .i64 x.fi)).setCell ⟨b, o + 3, none⟩ (.int .i64 x.be)
theorem setN_but {S : Nat → Prop} {a w : World} (h : But S a w) {b : Nat} (hb : S b) (o : Nat) (x : Nd) : But S a (setN w b o x) :=
  (((h.setCell (p := ⟨b, o, none⟩) hb _).setCell (p := ⟨b, o + 1, none⟩) hb _).setCell (p := ⟨b, o + 2, none⟩) hb _).setCell (p := ⟨b, o + 3, none⟩) hb _
theorem Pn.set {w : World} {b o : Nat} {y : Nd} (h : Pn w b o y) (x : Nd) : Pn (setN w b o x) b o x := by
  have s0 := World.cell?_setCell_same w ⟨b, o, none⟩ (.bool x.th) h.c0
  have s1 := World.cell?_setCell_same (w.setCell ⟨b, o, none⟩ (.bool x.th)) ⟨b, o + 1, none⟩ (.int .i64 x.pa) (cell_ne h.c1 (by omega))
  have s2 := World.cell?_setCell_same ((w.setCell ⟨b, o, none⟩ (.bool x.th)).setCell ⟨b, o + 1, none⟩ (.int .i64 x.pa)) ⟨b, o + 2, none⟩ (.int .i64 x.fi) (cell_ne (cell_ne h.c2 (by omega)) (by omega))
  unfold setN
  exact ⟨cell_ne (cell_ne (cell_ne s0 (by omega)) (by omega)) (by omega), cell_ne (cell_ne s1 (by omega)) (by omega), cell_ne s2 (by omega), World.cell?_setCell_same _ _ _ (cell_ne (cell_ne (cell_ne h.c3 (by omega)) (by omega)) (by omega))⟩
theorem Pn.setOff {w : World} {b o o' : Nat} {y : Nd} (h : Pn w b o y) (x : Nd) (hne : o' + 4 ≤ o ∨ o + 4 ≤ o') : Pn (setN w b o' x) b o y := by
  unfold setN
  exact (((h.off (by omega)).off (by omega)).off (by omega)).off (by omega)
theorem Tm.set {w : World} {g gb m : Nat} {N : List Nd} {i : Nat} {y : Nd} (h : Tm w g gb m N) (hy : N[i]? = some y) (x : Nd) : Tm (setN w gb (i * 4) x) g gb m (N.set i x) := by
  have hb : But (· = gb) w (setN w gb (i * 4) x) := setN_but (S := (· = gb)) (But.refl _ _) (b := gb) (by rfl) _ _
  refine ⟨cell_but hb h.a0 h.ne, fun j => by have := h.fr j; unfold setN; simpa using this, fun j q hq => ?_, h.ne, Nat.lt_of_lt_of_le h.lt2 hb.size, by rw [List.length_set]; exact h.len, h.big⟩
  rcases get_set hq with ⟨rfl, rfl⟩ | ⟨hne, h3⟩
  · exact (h.at_ _ _ hy).set _
  · exact (h.at_ _ _ h3).setOff _ (by omega)
def rootE (m : Nat) (l : Fo) (n : Int) : Int := if 0 ≤ n ∧ n < m then (if n ∈ nums l then 19 else 0) else 20
def rootL (m : Nat) (l : Fo) (n : Int) : Fo := if (0 ≤ n ∧ n < m) ∧ n ∉ nums l then l ++ [(n, -1)] else l
set_option maxRecDepth 100000 in
set_option maxHeartbeats 1000000 in
theorem root_mem {w : World} {g gb m : Nat} {N : List Nd} {l : Fo} (hT : Tm w g gb m N) (hR : Rep m l N) (k : Nat) (hk : k < m) (hn : (k : Int) ∉ nums l) :
    Calls Try.prog 73 #[.pointer (some ⟨g, 0, none⟩), .int .i64 (k : Int)] w fun e w' => e = .returned (.int .i64 0) ∧ Tm w' g gb m (N.set k ⟨true, -1, -1, -1⟩) ∧ But (· = gb) w w' := by
  obtain ⟨x, hx⟩ := get_some (L := N) (i := k) (by rw [hT.len]; exact hk)
  have hc := at_ok hT k hk
  have hP := hT.at_ k x hx
  have c0 := hP.c0
  have c1 := hP.c1
  have c2 := hP.c2
  have c3 := hP.c3
  rw [hR.there hx, decide_eq_false hn] at c0
  have f0 := hT.fr (k * 4)
  have f1 := hT.fr (k * 4 + 1)
  have f2 := hT.fr (k * 4 + 2)
  have f3 := hT.fr (k * 4 + 3)
  have HT := hid (hT.set hx ⟨true, -1, -1, -1⟩)
  have HB : Hid (But (· = gb) w (setN w gb (k * 4) ⟨true, -1, -1, -1⟩)) := setN_but (S := (· = gb)) (But.refl _ _) (b := gb) (by rfl) _ _
  unfold setN at HT HB
  clear hT hR hn hP hx
  go_enter Try.func73, Try.ntmps73
  go_wp2_with (first | (go_at_call 64; refine hc.mono ?_; rintro e w1 ⟨rfl, rfl⟩))
  go_ret
  exact ⟨rfl, HT.out, HB.out⟩
set_option maxRecDepth 100000 in
set_option maxHeartbeats 1000000 in
theorem root_no {w : World} {g gb m : Nat} {l : Fo} (h : Ki w g gb m l) (n : Int) (hn : (n < 0 ∨ (m : Int) ≤ n) ∨ n ∈ nums l) :
    Calls Try.prog 73 #[.pointer (some ⟨g, 0, none⟩), .int .i64 n] w fun e w' => e = .returned (.int .i64 (rootE m l n)) ∧ w' = w := by
  obtain ⟨N, hT, hR⟩ := h
  by_cases h1 : n < 0 ∨ (m : Int) ≤ n
  · rw [show rootE m l n = 20 by unfold rootE; rw [if_neg (by omega)]]
    have hc := at_bad hT n h1
    clear hT hR hn h1
    go_enter Try.func73, Try.ntmps73
    go_wp2_with (first | (go_at_call 64; refine hc.mono ?_; rintro e w1 ⟨rfl, rfl⟩))
    go_ret
    exact ⟨rfl, rfl⟩
  · have h2 : n ∈ nums l := by
      rcases hn with hn | hn
      · exact absurd hn h1
      · exact hn
    rw [show rootE m l n = 19 by unfold rootE; rw [if_pos (by omega), if_pos h2]]
    obtain ⟨k, x, rfl, hk, hx⟩ := hR.get h2
    have hc := at_ok hT k hk
    have c0 := (hT.at_ k x hx).c0
    rw [hR.there hx, decide_eq_true h2] at c0
    clear hT hR hn h1 h2 hx
    go_enter Try.func73, Try.ntmps73
    go_wp2_with (first | (go_at_call 64; refine hc.mono ?_; rintro e w1 ⟨rfl, rfl⟩))
    go_ret
    exact ⟨rfl, rfl⟩
/-- Behind a call that changes the forest. -/
def Did (w : World) (g gb m : Nat) (c : Int) (l : Fo) (e : Ending) (w' : World) : Prop := e = .returned (.int .i64 c) ∧ Ki w' g gb m l ∧ But (· = gb) w w'
theorem root_any {w : World} {g gb m : Nat} {l : Fo} (h : Ki w g gb m l) (n : Int) :
    Calls Try.prog 73 #[.pointer (some ⟨g, 0, none⟩), .int .i64 n] w (Did w g gb m (rootE m l n) (rootL m l n)) := by
  by_cases hn : (0 ≤ n ∧ n < m) ∧ n ∉ nums l
  · obtain ⟨k, rfl⟩ : ∃ k : Nat, n = (k : Int) := ⟨n.toNat, by omega⟩
    obtain ⟨N, hT, hR⟩ := h
    refine (root_mem hT hR k (by omega) hn.2).mono ?_
    rintro e w' ⟨rfl, h1, h2⟩
    refine ⟨by unfold rootE; rw [if_pos hn.1, if_neg hn.2], ⟨_, h1, ?_⟩, h2⟩
    unfold rootL
    rw [if_pos hn]
    exact hR.root (by omega) hn.2
  · refine (root_no h n (by
      by_cases h1 : n ∈ nums l
      · exact .inr h1
      · left
        have : ¬ (0 ≤ n ∧ n < m) := fun h2 => hn ⟨h2, h1⟩
        omega)).mono ?_
    rintro e w' ⟨rfl, rfl⟩
    refine ⟨rfl, ?_, But.refl _ _⟩
    unfold rootL
    rw [if_neg hn]
    exact h
def childE (m : Nat) (l : Fo) (p n : Int) : Int := if p ∈ nums l then rootE m l n else 20
def childL (m : Nat) (l : Fo) (p n : Int) : Fo := if p ∈ nums l ∧ ((0 ≤ n ∧ n < m) ∧ n ∉ nums l) then l ++ [(n, p)] else l
set_option maxRecDepth 100000 in
set_option maxHeartbeats 1000000 in
theorem child_ok {w : World} {g gb m : Nat} {l : Fo} (h : Ki w g gb m l) (p k : Nat) (hp : (p : Int) ∈ nums l) (hk : k < m) (hn : (k : Int) ∉ nums l) :
    Calls Try.prog 74 #[.pointer (some ⟨g, 0, none⟩), .int .i64 (p : Int), .int .i64 (k : Int)] w (Did w g gb m 0 (l ++ [((k : Int), (p : Int))])) := by
  have hh := has_any h (p : Int)
  rw [decide_eq_true hp] at hh
  obtain ⟨N, hT, hR⟩ := h
  have HR := hid hR
  have hroot := hid (root_mem hT hR k hk hn)
  obtain ⟨y, hy⟩ := get_some (L := N.set k ⟨true, -1, -1, -1⟩) (i := k) (by rw [List.length_set, hT.len]; exact hk)
  have HY := hid hy
  have hy2 : y = ⟨true, -1, -1, -1⟩ := by
    rcases get_set hy with ⟨_, h⟩ | ⟨h, _⟩
    · exact h
    · exact absurd rfl h
  have HY2 := hid hy2
  have HC : Hid (Chain ((N.set k ⟨true, -1, -1, -1⟩).set k ⟨y.th, (p : Int), y.fi, y.be⟩) p (ch l p)) := by
    rw [hy2, List.set_set]
    exact hR.chainNew hp hn _
  have HP := hid hp
  have HN := hid hn
  have hcl := hid (fun i (hi : i < (ch l p).length) => show nx (ch l p) i ≠ -1 from by
    rw [nx_lt hi]
    have := hR.ok.range _ (ch_mem (List.getElem_mem hi))
    omega)
  have HZ : Hid (Rep m (l ++ [((k : Int), (p : Int))]) (putL ((N.set k ⟨true, -1, -1, -1⟩).set k ⟨y.th, (p : Int), y.fi, y.be⟩) p (ch l p) (ch l p).length (k : Int))) := by
    rw [hy2, List.set_set]
    exact hR.child hk hp hn
  clear hT hR hn hy hy2 hp
  go_enter Try.func74, Try.ntmps74
  go_upto_region 6 with (first | (go_at_call 47; refine hh.mono ?_; rintro e wA ⟨rfl, rfl⟩) | (go_at_call 73; refine hroot.out.mono ?_; rintro e w2 ⟨rfl, hT2, hB2⟩; have HT2 := hid hT2; have HB2 := hid hB2; clear hT2 hB2))
  have hP := HT2.out.at_ k y HY.out
  have c1 := hP.c1
  have f1 := HT2.out.fr (k * 4 + 1)
  have HT3 := hid (HT2.out.setPa HY.out (p : Int))
  have hc2 := at_ok HT2.out k hk
  clear hP
  go_upto_region 7 with (first | (go_at_call 64; refine hc2.mono ?_; rintro e wB ⟨rfl, rfl⟩))
  obtain ⟨w3, hw3⟩ : ∃ w3 : World, w3 = wB.setCell ⟨gb, k * 4 + 1, none⟩ (.int .i64 (p : Int)) := ⟨_, rfl⟩
  rw [← hw3] at HT3 ⊢
  have HB3 : Hid (But (· = gb) wA w3) := by rw [hw3]; exact HB2.out.setCell (S := (· = gb)) (p := ⟨gb, k * 4 + 1, none⟩) (show gb = gb from rfl) _
  have hlk := linkTo_any HT3.out HC.out (-1) (ch l p).length (Nat.le_refl _) (nx_ge (Nat.le_refl _)) hcl.out
  obtain ⟨_, hcell⟩ := Chain.cell HT3.out HC.out (i := (ch l p).length) (Nat.le_refl _)
  have ff := HT3.out.fr (lkN p (ch l p) (ch l p).length * 4 + lkF (ch l p).length)
  have HT4 := hid (HT3.out.setLk HC.out (Nat.le_refl _) (k : Int))
  unfold lkA at hlk
  have HB4 : Hid (But (· = gb) wA (w3.setCell ⟨gb, lkN p (ch l p) (ch l p).length * 4 + lkF (ch l p).length, none⟩ (.int .i64 (k : Int)))) := HB3.out.setCell (S := (· = gb)) (p := ⟨gb, _, none⟩) (show gb = gb from rfl) _
  generalize lkN p (ch l p) (ch l p).length * 4 + lkF (ch l p).length = o at *
  clear hw3 f1 c1 hc2 hh
  go_wp2_with (first | (go_at_call 70; refine hlk.mono ?_; rintro e w5 ⟨rfl, rfl⟩))
  go_ret
  exact ⟨rfl, ⟨_, HT4.out, HZ.out⟩, HB4.out⟩
set_option maxRecDepth 100000 in
set_option maxHeartbeats 1000000 in
theorem child_no {w : World} {g gb m : Nat} {l : Fo} (h : Ki w g gb m l) (p n : Int) (hn : p ∉ nums l ∨ (n < 0 ∨ (m : Int) ≤ n) ∨ n ∈ nums l) :
    Calls Try.prog 74 #[.pointer (some ⟨g, 0, none⟩), .int .i64 p, .int .i64 n] w fun e w' => e = .returned (.int .i64 (childE m l p n)) ∧ w' = w := by
  have hh := has_any h p
  by_cases hp : p ∈ nums l
  · rw [decide_eq_true hp] at hh
    unfold childE
    rw [if_pos hp]
    have hn2 : (n < 0 ∨ (m : Int) ≤ n) ∨ n ∈ nums l := by
      rcases hn with hn | hn
      · exact absurd hp hn
      · exact hn
    have hr := root_no h n hn2
    have hE : rootE m l n = 19 ∨ rootE m l n = 20 := by
      unfold rootE
      split
      · split
        · exact .inl rfl
        · next h1 h2 => rcases hn2 with h3 | h3; omega; exact absurd h3 h2
      · exact .inr rfl
    clear h hn hp hn2
    rcases hE with hE | hE
    · rw [hE] at hr ⊢
      go_enter Try.func74, Try.ntmps74
      go_wp2_with (first | (go_at_call 47; refine hh.mono ?_; rintro e w1 ⟨rfl, rfl⟩) | (go_at_call 73; refine hr.mono ?_; rintro e w1 ⟨rfl, rfl⟩))
      go_ret
      exact ⟨rfl, rfl⟩
    · rw [hE] at hr ⊢
      go_enter Try.func74, Try.ntmps74
      go_wp2_with (first | (go_at_call 47; refine hh.mono ?_; rintro e w1 ⟨rfl, rfl⟩) | (go_at_call 73; refine hr.mono ?_; rintro e w1 ⟨rfl, rfl⟩))
      go_ret
      exact ⟨rfl, rfl⟩
  · rw [decide_eq_false hp] at hh
    unfold childE
    rw [if_neg hp]
    clear h hn hp
    go_enter Try.func74, Try.ntmps74
    go_wp2_with (first | (go_at_call 47; refine hh.mono ?_; rintro e w1 ⟨rfl, rfl⟩))
    go_ret
    exact ⟨rfl, rfl⟩
theorem child_any {w : World} {g gb m : Nat} {l : Fo} (h : Ki w g gb m l) (p n : Int) :
    Calls Try.prog 74 #[.pointer (some ⟨g, 0, none⟩), .int .i64 p, .int .i64 n] w (Did w g gb m (childE m l p n) (childL m l p n)) := by
  by_cases hn : p ∈ nums l ∧ ((0 ≤ n ∧ n < m) ∧ n ∉ nums l)
  · have hp2 := h.ok.range p hn.1
    obtain ⟨k, rfl⟩ : ∃ k : Nat, n = (k : Int) := ⟨n.toNat, by omega⟩
    obtain ⟨p, rfl⟩ : ∃ k : Nat, p = (k : Int) := ⟨p.toNat, by omega⟩
    unfold childE childL
    rw [if_pos hn, if_pos hn.1]
    rw [show rootE m l (k : Int) = 0 by unfold rootE; rw [if_pos hn.2.1, if_neg hn.2.2]]
    exact child_ok h p k hn.1 (by omega) hn.2.2
  · refine (child_no h p n (by
      by_cases h0 : p ∈ nums l
      · right
        by_cases h1 : n ∈ nums l
        · exact .inr h1
        · left
          have : ¬ (0 ≤ n ∧ n < m) := fun h2 => hn ⟨h0, h2, h1⟩
          omega
      · exact .inl h0)).mono ?_
    rintro e w' ⟨rfl, rfl⟩
    refine ⟨rfl, ?_, But.refl _ _⟩
    unfold childL
    rw [if_neg hn]
    exact h
end Go.Proofs.Ytgdhdfmgfncdkaa
