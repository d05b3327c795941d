import Derived.Test.YtlelglfdamakaaaMD
import Derived.BigRegion
namespace Go.Proofs.Ytlelglfdamakaaa.H.I
open Go.RowKit
set_option linter.unusedVariables false

def FindRel (w : World) (h N : Nat) (L : List Q) (o : Int) (hi lo : Nat) (s t : Value) (w' : World) : Prop :=
  ∃ d : Nat, d ≤ N ∧ s = .int .i64 (((h + d) % N : Nat) : Int) ∧ t = .int .i64 (d : Int) ∧ (∀ e, e < d → ∀ p : Q, L[(h + e) % N]? = some p → p.k = 1 → p.c ≠ (o, hi, lo)) ∧ Below w.heap.size w w' ∧ Bx w' w.heap.size o hi lo
set_option maxRecDepth 100000 in
set_option maxHeartbeats 1000000 in
theorem find_any {w : World} {g gb kn mo : Nat} {li sp : Int} {N : Nat} {L : List Q} (h : Tm w g gb kn mo li sp N L) (hw : Way (hm kn N) (· ≠ 0) L) (o : Int) (hi lo : Nat) (h1 : hi < B64) (h2 : lo < B64) :
    Calls Try.prog 75 #[.pointer (some ⟨g, 0, none⟩), .agg #[.int .i64 o, .int .u64 (hi : Int), .int .u64 (lo : Int)]] w fun e w' => ((∃ (i : Nat) (p : Q), L[i]? = some p ∧ p.k = 1 ∧ p.c = (o, hi, lo) ∧ e = .returned (.tuple #[.int .i64 (i : Int), .bool true])) ∨ ((∀ (i : Nat) (p : Q), L[i]? = some p → p.k = 1 → p.c ≠ (o, hi, lo)) ∧ e = .returned (.tuple #[.int .i64 0, .bool false]))) ∧ Below w.heap.size w w' := by
  have HH := hid h
  have HW := hid hw
  have hpos := h.pos
  have hbig := h.big
  have hlen := hid h.len
  have hx0 := (h.alloc (Obj.cells #[.int .i64 o, .int .u64 (hi : Int), .int .u64 (lo : Int)] 32)).a0
  have hf := fun (W : World) (hW : Tm W g gb kn mo li sp N L) => first_any hW o hi lo h1 h2
  have hlt := hid (hm_lt (kn := kn) (o, hi, lo) hpos)
  obtain ⟨hs, hE'⟩ : ∃ hs, hs = hm kn N (o, hi, lo) := ⟨_, rfl⟩
  rw [← hE'] at hf hlt
  have hE := hid hE'
  clear hE'
  clear h hw
  go_enter Try.func75, Try.ntmps75
  go_upto_region 3 with (first | (go_at_call 87; refine (hf _ (HH.out.alloc _)).mono ?_; rintro e w2 ⟨rfl, hb2⟩; have HB2 := hid (below_call (below1 _ _) hb2); have X0 := cell_later hb2 hx0; have HX := hid ((Bx.new w o hi lo).later hb2); clear hb2))
  clear hx0
  go_loopw [6, 16] (FindRel w hs N L o hi lo) (fun _ t _ => N - (intOf t).toNat)
  case atStart => exact ⟨0, Nat.zero_le _, by rw [Nat.add_zero, Nat.mod_eq_of_lt hlt.out], rfl, fun e he => absurd he (Nat.not_lt_zero _), HB2.out, HX.out⟩
  case round =>
    obtain ⟨d, hd, rfl, rfl, hno, hB, X⟩ := hrel
    have HNo := hid hno
    clear hno
    by_cases hlt2 : d < N
    · have hT := HH.out.later hB
      have hm1 : (hs + d) % N < N := Nat.mod_lt _ hpos
      obtain ⟨p, hp⟩ := get_some (L := L) (i := (hs + d) % N) (by rw [hlen.out]; exact hm1)
      have hP := hT.at_ _ p hp
      have y0 := hT.a0
      have hnx := hid (next_far hs d N)
      have HP := hid hp
      clear hp
      obtain ⟨c0, c1, c2, c3⟩ := (⟨hP.c0, hP.c1, hP.c2, hP.c3⟩ : _ ∧ _ ∧ _ ∧ _)
      obtain ⟨b0, b1, b2⟩ := (⟨X.c0, X.c1, X.c2⟩ : _ ∧ _ ∧ _)
      have HT := hid hT
      clear hT hP
      generalize hat : (hs + d) % N = at_ at *
      have hme : p.k = 0 ∨ p.k = 1 ∨ (p.k ≠ 0 ∧ p.k ≠ 1) := by omega
      rcases hme with hk | hk | ⟨hk, hk'⟩
      · rw [hk] at c0
        go_wp2
        refine bodyPost_ret (v := .tuple #[.int .i64 0, .bool false]) (by simp [results, Try.results75, go_sem]) rfl ⟨.inr ⟨?_, rfl⟩, hB⟩
        have hq : L[(hm kn N (o, hi, lo) + d) % L.length]? = some p := by rw [← hE.out, hlen.out, hat]; exact HP.out
        exact HW.out.none (fun e he q hq' => HNo.out e he q (by rw [hE.out]; rw [hlen.out] at hq'; exact hq')) hq hk
      · rw [hk] at c0
        by_cases hc : p.c = (o, hi, lo)
        · have hd1 : cEq p.c.1 (p.c.2.1 : Int) (p.c.2.2 : Int) o (hi : Int) (lo : Int) = true := by rw [hc]; simp [cEq]
          have heq := fun W => eqlC p.c.1 (p.c.2.1 : Int) (p.c.2.2 : Int) o (hi : Int) (lo : Int) W
          simp only [hd1] at heq
          go_upto_region 7 with fail
          go_quiet (fail)
          go_wp2
          refine bodyPost_ret (v := .tuple #[.int .i64 (at_ : Int), .bool true]) (by simp [results, Try.results75, go_sem]) rfl ⟨.inl ⟨at_, p, HP.out, hk, hc, rfl⟩, ?_⟩
          exact below_drewN hB _
        · have hd1 : cEq p.c.1 (p.c.2.1 : Int) (p.c.2.2 : Int) o (hi : Int) (lo : Int) = false := by
            refine decide_eq_false fun hq => hc ?_
            obtain ⟨q1, q2, q3⟩ := hq
            exact Prod.ext q1 (Prod.ext (Int.ofNat.inj q2) (Int.ofNat.inj q3))
          have heq := fun W => eqlC p.c.1 (p.c.2.1 : Int) (p.c.2.2 : Int) o (hi : Int) (lo : Int) W
          simp only [hd1] at heq
          go_upto_region 7 with fail
          go_quiet (fail)
          go_wp2_with (first | (go_at_call 88; refine (next_any (HT.out.later (below_drewN (Below.refl _ _) _)) _ (by assumption)).mono ?_; rintro e w3 ⟨rfl, rfl⟩))
          refine ⟨⟨d + 1, by omega, by rw [← hnx.out]; simp, by go_num, ?_, below_drewN hB _, X.later (below_drewN (Below.refl _ _) _)⟩, by simp [intOf]; omega⟩
          intro e he q hq hqk
          rcases Nat.lt_or_ge e d with h3 | h3
          · exact HNo.out e h3 q hq hqk
          · obtain rfl : e = d := by omega
            rw [hat, HP.out] at hq
            cases hq
            exact hc
      · have hn0 : (p.k == 0) = false := by simpa using hk
        have hn1 : (p.k == 1) = false := by simpa using hk'
        go_upto_region 7 with fail
        go_quiet (fail)
        go_wp2_with (first | (go_at_call 88; refine (next_any (HT.out.later (below_drewN (Below.refl _ _) _)) _ (by assumption)).mono ?_; rintro e w3 ⟨rfl, rfl⟩))
        refine ⟨⟨d + 1, by omega, by rw [← hnx.out]; simp, by go_num, ?_, below_drewN hB _, X.later (below_drewN (Below.refl _ _) _)⟩, by simp [intOf]; omega⟩
        intro e he q hq hqk
        rcases Nat.lt_or_ge e d with h3 | h3
        · exact HNo.out e h3 q hq hqk
        · obtain rfl : e = d := by omega
          rw [hat, HP.out] at hq
          cases hq
          exact absurd hqk hk'
    · obtain rfl : d = N := by omega
      go_wp2
      refine bodyPost_ret (v := .tuple #[.int .i64 0, .bool false]) (by simp [results, Try.results75, go_sem]) rfl ⟨.inr ⟨?_, rfl⟩, hB⟩
      exact HW.out.none' (fun e he q hq' => HNo.out e (by rw [← hlen.out]; exact he) q (by rw [hE.out]; rw [hlen.out] at hq'; exact hq'))
end Go.Proofs.Ytlelglfdamakaaa.H.I
namespace Go.Proofs.Ytlelglfdamakaaa.H.I
open Go.RowKit
set_option linter.unusedVariables false

theorem back {h d N : Nat} (hh : h < N) (hd : d < N) : ((h + d) % N + N - h) % N = d := by
  rcases Nat.lt_or_ge (h + d) N with h1 | h1
  · rw [Nat.mod_eq_of_lt h1]
    have : h + d + N - h = d + N := by omega
    rw [this, Nat.add_mod_right, Nat.mod_eq_of_lt hd]
  · rw [Nat.mod_eq_sub_mod h1, Nat.mod_eq_of_lt (a := h + d - N) (by omega)]
    have : h + d - N + N - h = d := by omega
    rw [this, Nat.mod_eq_of_lt hd]
def OpenRel (w : World) (h N : Nat) (L : List Q) (s : Value) (w' : World) : Prop :=
  ∃ d : Nat, d < N ∧ s = .int .i64 (((h + d) % N : Nat) : Int) ∧ (∀ e, e < d → ∀ p : Q, L[(h + e) % N]? = some p → p.k = 1 ∨ p.k = 2) ∧ Below w.heap.size w w'
set_option maxRecDepth 100000 in
set_option maxHeartbeats 1000000 in
theorem open_any {w : World} {g gb kn mo : Nat} {li sp : Int} {N : Nat} {L : List Q} (h : Tm w g gb kn mo li sp N L) (hex : ∃ (i : Nat) (p : Q), L[i]? = some p ∧ p.k ≠ 1 ∧ p.k ≠ 2) (o : Int) (hi lo : Nat) (h1 : hi < B64) (h2 : lo < B64) :
    Calls Try.prog 86 #[.pointer (some ⟨g, 0, none⟩), .agg #[.int .i64 o, .int .u64 (hi : Int), .int .u64 (lo : Int)]] w fun e w' => (∃ (to_ d : Nat) (q : Q), d < N ∧ to_ = (hm kn N (o, hi, lo) + d) % N ∧ L[to_]? = some q ∧ q.k ≠ 1 ∧ q.k ≠ 2 ∧ (∀ e, e < d → ∀ p : Q, L[(hm kn N (o, hi, lo) + e) % N]? = some p → p.k = 1 ∨ p.k = 2) ∧ e = .returned (.int .i64 (to_ : Int))) ∧ Below w.heap.size w w' := by
  have HH := hid h
  have hpos := h.pos
  have hbig := h.big
  have hlen := hid h.len
  have hf := fun (W : World) (hW : Tm W g gb kn mo li sp N L) => first_any hW o hi lo h1 h2
  have hlt := hid (hm_lt (kn := kn) (o, hi, lo) hpos)
  generalize hm kn N (o, hi, lo) = hs at hf hlt ⊢
  obtain ⟨i0, p0, hp0, hk0, hk0'⟩ := hex
  obtain ⟨d0, hd0, hi0⟩ := far hlt.out (by rw [← hlen.out]; exact get_lt hp0 : i0 < N)
  have H0 : Hid (L[(hs + d0) % N]? = some p0) := by unfold Hid; rw [← hi0]; exact hp0
  clear h hp0 hi0
  go_enter Try.func86, Try.ntmps86
  go_upto_region 2 with (first | (go_at_call 87; refine (hf _ (HH.out.alloc _)).mono ?_; rintro e w2 ⟨rfl, hb2⟩; have HB2 := hid (below_call (below1 _ _) hb2); clear hb2))
  go_loopw [5] (OpenRel w hs N L) (fun t _ => N - ((intOf t).toNat + N - hs) % N)
  case atStart => exact ⟨0, by omega, by rw [Nat.add_zero, Nat.mod_eq_of_lt hlt.out], fun e he => absurd he (Nat.not_lt_zero _), HB2.out⟩
  case round =>
    obtain ⟨d, hd, rfl, hno, hB⟩ := hrel
    have HNo := hid hno
    clear hno
    have hT := HH.out.later hB
    have hm1 : (hs + d) % N < N := Nat.mod_lt _ hpos
    obtain ⟨p, hp⟩ := get_some (L := L) (i := (hs + d) % N) (by rw [hlen.out]; exact hm1)
    have c0 := (hT.at_ _ p hp).c0
    have y0 := hT.a0
    have hnx := hid (next_far hs d N)
    have HP := hid hp
    clear hp
    have HT := hid hT
    clear hT
    have hle : d ≤ d0 := by
      rcases Nat.lt_or_ge d0 d with h3 | h3
      · have := HNo.out d0 h3 p0 H0.out
        omega
      · exact h3
    have hback := hid (back hlt.out hd)
    generalize hat : (hs + d) % N = at_ at *
    have hme : p.k = 1 ∨ p.k = 2 ∨ (p.k ≠ 1 ∧ p.k ≠ 2) := by omega
    by_cases hkk : p.k = 1 ∨ p.k = 2
    · have hlt3 : d < d0 := by
        rcases Nat.lt_or_ge d d0 with h3 | h3
        · exact h3
        · obtain rfl : d = d0 := by omega
          have := H0.out
          rw [hat, HP.out] at this
          cases this
          omega
      have hfin : ∀ W, Below wr.heap.size wr W → OpenRel w hs N L (.int .i64 (((at_ : Int) + 1) % (N : Int))) W ∧ N - ((intOf (.int .i64 (((at_ : Int) + 1) % (N : Int)))).toNat + N - hs) % N < N - ((intOf (.int .i64 (at_ : Int))).toNat + N - hs) % N := by
        intro W hW
        have e1 : ((at_ : Int) + 1) % (N : Int) = (((hs + (d + 1)) % N : Nat) : Int) := by rw [← hnx.out]; simp
        rw [e1]
        refine ⟨⟨d + 1, by omega, rfl, ?_, below_call hB hW⟩, ?_⟩
        · intro e he q hq
          rcases Nat.lt_or_ge e d with h3 | h3
          · exact HNo.out e h3 q hq
          · obtain rfl : e = d := by omega
            rw [hat, HP.out] at hq
            cases hq
            exact hkk
        · simp only [intOf, Int.toNat_natCast]
          rw [back hlt.out (by omega), hback.out]
          omega
      have HF := hid hfin
      clear hfin hme
      rcases hkk with hk | hk
      · rw [hk] at c0
        go_wp2_with (first | (go_at_call 88; refine (next_any HT.out _ (by assumption)).mono ?_; rintro e w3 ⟨rfl, rfl⟩))
        exact HF.out _ (Below.refl _ _)
      · rw [hk] at c0
        go_wp2_with (first | (go_at_call 88; refine (next_any HT.out _ (by assumption)).mono ?_; rintro e w3 ⟨rfl, rfl⟩))
        exact HF.out _ (Below.refl _ _)
    · have hn1 : (p.k == 1) = false := by simp; omega
      have hn2 : (p.k == 2) = false := by simp; omega
      have HK := hid hkk
      clear hkk hme
      go_wp2
      go_ret
      exact ⟨⟨at_, d, p, hd, hat.symm, HP.out, fun h => HK.out (.inl h), fun h => HK.out (.inr h), HNo.out, rfl⟩, hB⟩
end Go.Proofs.Ytlelglfdamakaaa.H.I
namespace Go.Proofs.Ytlelglfdamakaaa.H.I
open Go.RowKit
set_option linter.unusedVariables false

theorem cell_ne {w : World} {b o o' : Nat} {u v : Value} (h : w.cell? ⟨b, o, none⟩ = some v) (hne : o ≠ o') : (w.setCell ⟨b, o', none⟩ u).cell? ⟨b, o, none⟩ = some v := by
  rw [World.cell?_setCell_other _ _ _ _ (fun e => hne (by cases e; rfl))]; exact h
theorem cell_nb {w : World} {b b' o o' : Nat} {u v : Value} (h : w.cell? ⟨b, o, none⟩ = some v) (hne : b ≠ b') : (w.setCell ⟨b', o', none⟩ u).cell? ⟨b, o, none⟩ = some v := by
  rw [World.cell?_setCell_other _ _ _ _ (fun e => hne (by cases e; rfl))]; exact h
/-- One cell of the places is written. -/
theorem Tm.cell {w : World} {g gb kn mo : Nat} {li sp : Int} {N : Nat} {L L' : List Q} {o : Nat} {u : Value} (h : Tm w g gb kn mo li sp N L) (hl : L'.length = N) (hok : ∀ (i : Nat) (p : Q), L'[i]? = some p → p.c.2.1 < B64 ∧ p.c.2.2 < B64)
    (hat : ∀ (i : Nat) (p : Q), L'[i]? = some p → Pa (w.setCell ⟨gb, o, none⟩ u) gb (i * 5) p) : Tm (w.setCell ⟨gb, o, none⟩ u) g gb kn mo li sp N L' :=
  ⟨cell_nb h.a0 h.ne, cell_nb h.a1 h.ne, cell_nb h.a2 h.ne, h.a3.other (fun e => h.ne (by cases e; rfl)), h.a4.other (fun e => h.ne (by cases e; rfl)), fun j => by simpa using h.fr j, hat, h.ne, hl, h.pos, h.big, hok⟩
theorem Pa.off {w : World} {b o o' : Nat} {p : Q} {u : Value} (h : Pa w b o p) (hne : o' < o ∨ o + 5 ≤ o') : Pa (w.setCell ⟨b, o', none⟩ u) b o p :=
  ⟨cell_ne h.c0 (by omega), cell_ne h.c1 (by omega), cell_ne h.c2 (by omega), cell_ne h.c3 (by omega), cell_ne h.c4 (by omega)⟩
/-- The kind alone. -/
theorem Tm.setK {w : World} {g gb kn mo : Nat} {li sp : Int} {N : Nat} {L : List Q} {i : Nat} {p : Q} (h : Tm w g gb kn mo li sp N L) (hp : L[i]? = some p) (k : Int) : Tm (w.setCell ⟨gb, i * 5, none⟩ (.int .i64 k)) g gb kn mo li sp N (L.set i ⟨k, p.c, p.v⟩) := by
  refine h.cell (by rw [List.length_set]; exact h.len) (fun j q hq => ?_) (fun j q hq => ?_)
  · rcases get_set hq with ⟨rfl, rfl⟩ | ⟨_, h3⟩
    · exact h.ok _ p hp
    · exact h.ok _ _ h3
  · rcases get_set hq with ⟨rfl, rfl⟩ | ⟨hne, h3⟩
    · have hP := h.at_ _ _ hp
      exact ⟨World.cell?_setCell_same _ _ _ hP.c0, cell_ne hP.c1 (by omega), cell_ne hP.c2 (by omega), cell_ne hP.c3 (by omega), cell_ne hP.c4 (by omega)⟩
    · exact (h.at_ _ _ h3).off (by omega)
/-- A whole place is written. -/
def setP (w : World) (b o : Nat) (x : Q) : World :=
  ((((w.setCell ⟨b, o, none⟩ (.int .i64 x.k)).setCell ⟨b, o + 1, none⟩ (.int .i64 x.c.1)).setCell ⟨b, o + 2, none⟩ (.int .u64 (x.c.2.1 : Int))).setCell ⟨b, o + 3, none⟩ (.int .u64 (x.c.2.2 : Int))).setCell ⟨b, o + 4, none⟩ (.int .i64 x.v)
theorem setP_but {S : Nat → Prop} {a w : World} (h : But S a w) {b : Nat} (hb : S b) (o : Nat) (x : Q) : But S a (setP w b o x) :=
  ((((h.setCell (p := ⟨b, o, none⟩) hb _).setCell (p := ⟨b, o + 1, none⟩) hb _).setCell (p := ⟨b, o + 2, none⟩) hb _).setCell (p := ⟨b, o + 3, none⟩) hb _).setCell (p := ⟨b, o + 4, none⟩) hb _
theorem Pa.set {w : World} {b o : Nat} {p : Q} (h : Pa w b o p) (x : Q) : Pa (setP w b o x) b o x := by
  have s0 := World.cell?_setCell_same w ⟨b, o, none⟩ (.int .i64 x.k) h.c0
  have s1 := World.cell?_setCell_same (w.setCell ⟨b, o, none⟩ (.int .i64 x.k)) ⟨b, o + 1, none⟩ (.int .i64 x.c.1) (cell_ne h.c1 (by omega))
  have s2 := World.cell?_setCell_same ((w.setCell ⟨b, o, none⟩ (.int .i64 x.k)).setCell ⟨b, o + 1, none⟩ (.int .i64 x.c.1)) ⟨b, o + 2, none⟩ (.int .u64 (x.c.2.1 : Int)) (cell_ne (cell_ne h.c2 (by omega)) (by omega))
  have s3 := World.cell?_setCell_same (((w.setCell ⟨b, o, none⟩ (.int .i64 x.k)).setCell ⟨b, o + 1, none⟩ (.int .i64 x.c.1)).setCell ⟨b, o + 2, none⟩ (.int .u64 (x.c.2.1 : Int))) ⟨b, o + 3, none⟩ (.int .u64 (x.c.2.2 : Int)) (cell_ne (cell_ne (cell_ne h.c3 (by omega)) (by omega)) (by omega))
  unfold setP
  exact ⟨cell_ne (cell_ne (cell_ne (cell_ne s0 (by omega)) (by omega)) (by omega)) (by omega), cell_ne (cell_ne (cell_ne s1 (by omega)) (by omega)) (by omega), cell_ne (cell_ne s2 (by omega)) (by omega), cell_ne s3 (by omega), World.cell?_setCell_same _ _ _ (cell_ne (cell_ne (cell_ne (cell_ne h.c4 (by omega)) (by omega)) (by omega)) (by omega))⟩
theorem Pa.setOff {w : World} {b o o' : Nat} {p : Q} (h : Pa w b o p) (x : Q) (hne : o' + 5 ≤ o ∨ o + 5 ≤ o') : Pa (setP w b o' x) b o p := by
  unfold setP
  exact ((((h.off (by omega)).off (by omega)).off (by omega)).off (by omega)).off (by omega)
theorem Tm.set {w : World} {g gb kn mo : Nat} {li sp : Int} {N : Nat} {L : List Q} {i : Nat} {p : Q} (h : Tm w g gb kn mo li sp N L) (hp : L[i]? = some p) (x : Q) (hx : x.c.2.1 < B64 ∧ x.c.2.2 < B64) : Tm (setP w gb (i * 5) x) g gb kn mo li sp N (L.set i x) := by
  have hb : But (· = gb) w (setP w gb (i * 5) x) := setP_but (S := (· = gb)) (But.refl _ _) (b := gb) (by rfl) _ _
  refine ⟨cell_but hb h.a0 h.ne, cell_but hb h.a1 h.ne, cell_but hb h.a2 h.ne, h.a3.but hb h.ne, h.a4.but hb h.ne, fun j => by have := h.fr j; unfold setP; simpa using this, fun j q hq => ?_, h.ne, by rw [List.length_set]; exact h.len, h.pos, h.big, fun j q hq => ?_⟩
  · rcases get_set hq with ⟨rfl, rfl⟩ | ⟨hne, h3⟩
    · exact (h.at_ _ _ hp).set _
    · exact (h.at_ _ _ h3).setOff _ (by omega)
  · rcases get_set hq with ⟨rfl, rfl⟩ | ⟨_, h3⟩
    · exact hx
    · exact h.ok _ _ h3
/-- live, spare. -/
theorem Tm.live {w : World} {g gb kn mo : Nat} {li sp : Int} {N : Nat} {L : List Q} (h : Tm w g gb kn mo li sp N L) (v : Int) : Tm (w.setCell ⟨g, 3, none⟩ (.int .i64 v)) g gb kn mo v sp N L := by
  have hb : But (· = g) w (w.setCell ⟨g, 3, none⟩ (.int .i64 v)) := (But.refl (· = g) _).setCell (p := ⟨g, 3, none⟩) (show g = g from rfl) _
  have hne : ¬ gb = g := fun e => h.ne e.symm
  exact ⟨cell_ne h.a0 (by omega), cell_ne h.a1 (by omega), cell_ne h.a2 (by omega), h.a3.put, h.a4.other (fun e => by cases e), fun j => by simpa using h.fr j, fun i p hp => (h.at_ i p hp).but hb hne, h.ne, h.len, h.pos, h.big, h.ok⟩
theorem Tm.spare {w : World} {g gb kn mo : Nat} {li sp : Int} {N : Nat} {L : List Q} (h : Tm w g gb kn mo li sp N L) (v : Int) : Tm (w.setCell ⟨g, 4, none⟩ (.int .i64 v)) g gb kn mo li v N L := by
  have hb : But (· = g) w (w.setCell ⟨g, 4, none⟩ (.int .i64 v)) := (But.refl (· = g) _).setCell (p := ⟨g, 4, none⟩) (show g = g from rfl) _
  have hne : ¬ gb = g := fun e => h.ne e.symm
  exact ⟨cell_ne h.a0 (by omega), cell_ne h.a1 (by omega), cell_ne h.a2 (by omega), h.a3.other (fun e => by cases e), h.a4.put, fun j => by simpa using h.fr j, fun i p hp => (h.at_ i p hp).but hb hne, h.ne, h.len, h.pos, h.big, h.ok⟩
/-- The blocks of a table. -/
def In (g gb : Nat) (k : Nat) : Prop := k = g ∨ k = gb
end Go.Proofs.Ytlelglfdamakaaa.H.I
namespace Go.Proofs.Ytlelglfdamakaaa.H.I
open Go.RowKit
set_option linter.unusedVariables false

/-- What is behind settle. -/
def Settled (w : World) (g gb kn mo : Nat) (li sp : Int) (N : Nat) (L : List Q) (at_ : Nat) (pc : Cp) (pv : Int) (W : World) : Prop :=
  ∃ (to_ d : Nat) (q : Q), d < N ∧ to_ = (hm kn N pc + d) % N ∧ L[to_]? = some q ∧ q.k ≠ 1 ∧ q.k ≠ 2 ∧ (∀ e, e < d → ∀ p' : Q, L[(hm kn N pc + e) % N]? = some p' → p'.k = 1 ∨ p'.k = 2) ∧ Tm W g gb kn mo li sp N ((L.set at_ q).set to_ ⟨1, pc, pv⟩) ∧ But (In g gb) w W
set_option maxRecDepth 100000 in
set_option maxHeartbeats 2000000 in
theorem settle_any {w : World} {g gb kn mo : Nat} {li sp : Int} {N : Nat} {L : List Q} (h : Tm w g gb kn mo li sp N L) (at_ : Nat) (p : Q) (hp : L[at_]? = some p) (hk : p.k = 3) :
    Calls Try.prog 94 #[.pointer (some ⟨g, 0, none⟩), .int .i64 (at_ : Int)] w fun e w' => e = .returned (.tuple #[]) ∧ Settled w g gb kn mo li sp N L at_ p.c p.v w' := by
  obtain ⟨pk, pc, pv⟩ := p
  obtain rfl : pk = 3 := hk
  have hat : at_ < N := by rw [← h.len]; exact get_lt hp
  have hP := h.at_ _ _ hp
  obtain ⟨c1, c2, c3⟩ := (⟨hP.c1, hP.c2, hP.c3⟩ : _ ∧ _ ∧ _)
  have y0 := h.a0
  have hbig := h.big
  have HH := hid h
  have HPl := hid hp
  have hok := h.ok _ _ hp
  have hop := fun (W : World) (hW : Tm W g gb kn mo li sp N L) => open_any hW ⟨at_, _, hp, by simp, by simp⟩ pc.1 pc.2.1 pc.2.2 hok.1 hok.2
  clear h hP hp
  go_enter Try.func94, Try.ntmps94
  go_upto_region 1 with (first | (go_at_call 86; refine (hop _ HH.out).mono ?_; rintro e w2 ⟨⟨to_, d, q, hd, hto, hq, hq1, hq2, hpath, rfl⟩, hb2⟩; have HTo := hid hto; have HPath := hid hpath; have HQ := hid hq; have HB2 := hid hb2; clear hto hpath hq hb2))
  have hT2 := HH.out.later HB2.out
  have hto2 : to_ < N := by rw [HTo.out]; exact Nat.mod_lt _ (by omega)
  have hP := hT2.at_ _ _ HPl.out
  have hQ := hT2.at_ _ _ HQ.out
  have z0 := hT2.a0
  obtain ⟨p0, p1, p2, p3, p4⟩ := hP
  obtain ⟨q0, q1, q2, q3, q4⟩ := hQ
  have hfr := hT2.fr
  have hne := hT2.ne
  have HT2 := hid hT2
  clear hT2 y0 c1 c2 c3
  have hfin : ∀ W : World, W = ((setP (setP w2 gb (at_ * 5) q) gb (to_ * 5) ⟨3, pc, pv⟩).setCell ⟨gb, to_ * 5, none⟩ (.int .i64 1)).drew →
      Settled w g gb kn mo li sp N L at_ pc pv W := by
    rintro W rfl
    have e1 : (L.set at_ q)[to_]? = some q := by
      rw [List.getElem?_set]
      split
      · next he => rw [if_pos (get_lt HPl.out)]
      · exact HQ.out
    have t1 := HT2.out.set HPl.out q (HT2.out.ok _ _ HQ.out)
    have t2 := t1.set e1 ⟨3, pc, pv⟩ hok
    have e2 : ((L.set at_ q).set to_ (⟨3, pc, pv⟩ : Q))[to_]? = some ⟨3, pc, pv⟩ := by
      rw [List.getElem?_set, if_pos rfl, if_pos (get_lt e1)]
    have t3 := t2.setK e2 1
    rw [List.set_set] at t3
    exact ⟨to_, d, q, hd, HTo.out, HQ.out, hq1, hq2, HPath.out, t3.later (Below.refl _ _).drew, ((setP_but (setP_but (But.of HB2.out) (.inr rfl) _ _) (.inr rfl) _ _).setCell (p := ⟨gb, to_ * 5, none⟩) (.inr rfl) _).call (Below.refl _ _).drew⟩
  have HF := hid hfin
  clear hfin
  by_cases hat2 : at_ = to_
  · subst hat2
    obtain rfl : q = ⟨3, pc, pv⟩ := by have := HQ.out; rw [HPl.out] at this; exact (Option.some.inj this).symm
    clear q0 q1 q2 q3 q4
    go_region
    go_wp2
    go_end0
    exact ⟨rfl, HF.out _ rfl⟩
  · have hat3 : to_ ≠ at_ := fun e => hat2 e.symm
    go_region
    go_wp2
    go_end0
    exact ⟨rfl, HF.out _ rfl⟩
end Go.Proofs.Ytlelglfdamakaaa.H.I
