import Derived.Test.YtlelglfdamakaaaD1
namespace Go.Proofs.Ytlelglfdamakaaa
open Go.RowKit H
set_option linter.unusedVariables false
set_option linter.unusedSimpArgs false
variable {w w' : World} {H : Hv} {X : List Tk} {l : Fo} {T : Nat → List K.Pu}

/-! ### The desk, and the document's catalogue beside it -/
structure Ds (w : World) (H : Hv) (X : List Tk) (l : Fo) : Prop where
  vt : Vt w H X l
  tp : Tp w H.d H.A.g H.v H.r
theorem Ds.but {S : Nat → Prop} (h : Ds w H X l) (hb : But S w w') (hn : ∀ k, H.All k → ¬ S k) : Ds w' H X l :=
  ⟨h.vt.but hb (fun k hk => hn k (.inl hk)) (hn _ (.inr (.inl rfl))) (hn _ (.inr (.inr (.inl rfl)))), h.tp.but hb (hn _ (.inr (.inr (.inr (.inl rfl)))))⟩
theorem Ds.later (h : Ds w H X l) (hb : Below w.heap.size w w') : Ds w' H X l := h.but (S := fun _ => False) (But.of hb) (fun _ _ h => h)
/-- The document's catalogue. -/
def Rq (w : World) (H : Hv) (X : List Tk) (l : Fo) (t : Nat) : Prop := ∃ wh ev, Rf w H.r H.b H.mo X l wh ev ∧ Tim l wh ev ∧ ev ≤ t
theorem Rq.but {S : Nat → Prop} {t : Nat} (h : Rq w H X l t) (hb : But S w w') (h1 : ¬ S H.r) (h2 : ¬ S H.b) : Rq w' H X l t := by
  obtain ⟨wh, ev, hf, ht, he⟩ := h
  exact ⟨wh, ev, hf.but hb h1 h2, ht, he⟩
theorem Rq.later {t : Nat} (h : Rq w H X l t) (hb : Below w.heap.size w w') : Rq w' H X l t := h.but (S := fun _ => False) (But.of hb) (fun h => h) (fun h => h)
theorem Rq.lt {t : Nat} (h : Rq w H X l t) : H.r < w.heap.size ∧ H.b < w.heap.size := by
  obtain ⟨wh, ev, hf, ht, he⟩ := h
  exact ⟨hf.ltr, hf.ltb⟩
/-- A desk that was just laid. -/
structure Laid (w0 w : World) (H : Hv) (mo : Nat) : Prop where
  ds : Ds w H (List.replicate mo tz) []
  rq : Rq w H (List.replicate mo tz) [] 0
  lo : ∀ k, H.All k → w0.heap.size ≤ k
  hi : ∀ k, H.All k → k < w.heap.size
  mo_ : H.mo = mo
  be : Below w0.heap.size w0 w
set_option maxRecDepth 100000 in
set_option maxHeartbeats 2000000 in
theorem desk_any (en a b c : Int) (w : World) :
    Calls Try.prog 6 #[.int .i64 en, .agg #[.int .i64 a, .int .i64 b, .int .i64 c]] w fun e w' => ∃ H : Hv, e = .returned (.pointer (some ⟨H.d, 0, none⟩)) ∧ Laid w w' H (1 + modN en 20) := by
  obtain ⟨e1, he1, he2, he3, he4, he5⟩ := rests en 20 (by decide)
  have ha5 := modN_lt a 17 (by decide)
  have hb5 := modN_lt b 4 (by decide)
  have hc5 := modN_lt c 65 (by decide)
  obtain ⟨w0, hw0⟩ : ∃ w0, w0 = w.alloc (Obj.cells #[.int .i64 a, .int .i64 b, .int .i64 c] 23) := ⟨_, rfl⟩
  have hB0 : Below w.heap.size w w0 := by rw [hw0]; exact below1 _ _
  have y0 : w0.cell? ⟨w.heap.size, 0, none⟩ = some (.int .i64 a) := by rw [hw0]; simp [go_sem]
  have y1 : w0.cell? ⟨w.heap.size, 1, none⟩ = some (.int .i64 b) := by rw [hw0]; simp [go_sem]
  have y2 : w0.cell? ⟨w.heap.size, 2, none⟩ = some (.int .i64 c) := by rw [hw0]; simp [go_sem]
  have HCut := hid (ncut_any a b c w0)
  have HCat := fun (U : World) => cnew_ok U (1 + modN en 20) (modN c 65) (by omega) (by omega) (by omega)
  have HRef := fun (U : World) => rnew_ok U (1 + modN en 20) (modN c 65) (by omega) (by omega) (by omega)
  have HCac := fun (U : World) => K.knew (modN a 17) (1 + modN b 4) (modN c 65) U (by omega) (by omega) (by omega) (by omega)
  have hm1 : ((1 + modN en 20 : Nat) : Int) = 1 + (modN en 20 : Int) := by omega
  have hm2 : ((1 + modN b 4 : Nat) : Int) = 1 + (modN b 4 : Int) := by omega
  rw [hm1] at HCat HRef
  rw [hm2] at HCac
  have HCat := hid HCat
  have HRef := hid HRef
  have HCac := hid HCac
  have HB0 := hid hB0
  generalize hMO : 1 + modN en 20 = mo at *
  generalize hNN : 1 + modN b 4 = nn at *
  clear hMO hNN hm1 hm2 hB0
  generalize modN en 20 = e2 at *
  generalize modN a 17 = a2 at *
  generalize modN b 4 = b2 at *
  generalize modN c 65 = c2 at *
  go_enter Try.func6, Try.ntmps6
  go_upto_region 1 with fail
  rw [← hw0]
  clear hw0
  go_upto_region 2 with (first | (go_at_call 23; refine HCut.out.mono ?_; rintro e w1 ⟨rfl, hb1⟩; have HB1 := hid (below_call HB0.out hb1); clear hb1))
  clear y0 y1 y2
  obtain ⟨w2, hw2⟩ : ∃ w2, w2 = w1.alloc (Obj.cells #[.int .i64 (a2 : Int), .int .i64 (1 + (b2 : Int)), .int .i64 (c2 : Int)] 23) := ⟨_, rfl⟩
  have HB2 : Hid (Below w.heap.size w w2) := by rw [hw2]; exact HB1.out.alloc HB1.out.size _
  have HC : Hid (∀ U, Below w2.heap.size w2 U → U.cell? ⟨w1.heap.size, 0, none⟩ = some (.int .i64 (a2 : Int)) ∧ U.cell? ⟨w1.heap.size, 1, none⟩ = some (.int .i64 (1 + (b2 : Int))) ∧ U.cell? ⟨w1.heap.size, 2, none⟩ = some (.int .i64 (c2 : Int))) := fun U hU =>
    ⟨cell_later hU (by rw [hw2]; simp [go_sem]), cell_later hU (by rw [hw2]; simp [go_sem]), cell_later hU (by rw [hw2]; simp [go_sem])⟩
  rw [← hw2]
  clear hw2
  obtain ⟨y0, y1, y2⟩ := HC.out w2 (Below.refl _ _)
  go_upto_region 4 with (first | (go_at_call 24; refine (HCat.out _).mono ?_; rintro e w3 ⟨A, rfl, hc3, hg3, hb3⟩; have HC3 := hid hc3; have HG3 := hid hg3; have HB3 := hid hb3; clear hc3 hg3 hb3))
  clear y0 y1 y2
  obtain ⟨y0, y1, y2⟩ := HC.out w3 HB3.out
  go_upto_region 5 with (first | (go_at_call 25; refine (HCac.out _).mono ?_; rintro e w4 ⟨g, rfl, hc4, hg4, hb4⟩; have HC4 := hid hc4; have HG4 := hid hg4; have HB4 := hid hb4; clear hc4 hg4 hb4))
  clear y0 y1 y2
  obtain ⟨y0, y1, y2⟩ := HC.out w4 (below_call HB3.out HB4.out)
  go_upto_region 6 with (first | (go_at_call 26; refine (HRef.out _).mono ?_; rintro e w5 ⟨r, rb, rfl, hc5, hg5, hh5, hb5⟩; have HC5 := hid hc5; have HG5 := hid (And.intro hg5 hh5); have HB5 := hid hb5; clear hc5 hg5 hh5 hb5))
  clear y0 y1 y2
  go_upto_region 8 with (first | (go_at_call 12; refine (num_any _ _).mono ?_; rintro e w9 ⟨rfl, hw9⟩; obtain rfl := hw9.symm; clear hw9))
  go_wp2_with (first | (go_at_call 27; refine (vnew_any (c := A.g) (HC4.out.later HB5.out)).mono ?_; rintro e w6 ⟨v, rfl, hv6, hk6, hg6, hb6⟩; have HV6 := hid hv6; have HK6 := hid hk6; have HG6 := hid hg6; have HB6 := hid hb6; clear hv6 hk6 hg6 hb6))
  go_ret
  have s3 := HB3.out.size
  have s4 := HB4.out.size
  have s5 := HB5.out.size
  have s6 := HB6.out.size
  have l3 := HC3.out.lt
  have l4 := HC4.out.lt
  have l5 := HC5.out.ltr
  have l5b := HC5.out.ltb
  have l6 := HV6.out.lt
  have g3 := HG3.out
  have g4 := HG4.out
  obtain ⟨g5, g5b⟩ := HG5.out
  have g6 := HG6.out
  have sw := HB2.out.size
  have hcat : Cat w6 A c2 mo (List.replicate mo tz) [] := ((HC3.out.later HB4.out).later HB5.out).but HB6.out (fun k hk e => by have := l3 k hk; omega)
  have hrf : Rf w6 r rb mo (List.replicate mo tz) [] (fun _ => 0) 0 := HC5.out.but HB6.out (by omega) (by omega)
  have hall : ∀ k, (⟨A, c2, mo, g, a2, nn, c2, v, w6.heap.size, r, rb⟩ : Hv).All k → (A.All k ∧ w2.heap.size ≤ k ∧ k < w3.heap.size) ∨ k = g ∨ k = v ∨ k = w6.heap.size ∨ k = r ∨ k = rb := fun k hk => by
    rcases hk with h1 | h1
    · exact .inl ⟨h1, g3 k h1, l3 k h1⟩
    · exact .inr h1
  refine ⟨⟨A, c2, mo, g, a2, nn, c2, v, w6.heap.size, r, rb⟩, rfl, ⟨⟨⟨K.T0, ⟨hcat.later (below1 _ _), ?_, HV6.out.later (below1 _ _), ?_⟩, Tr.zero _ _⟩, ⟨by simp [go_sem], by simp [go_sem], by simp [go_sem]⟩⟩, ⟨_, _, hrf.later (below1 _ _), ⟨List.Pairwise.nil, fun x hx => by cases hx⟩, Nat.le_refl _⟩, fun k hk => ?_, fun k hk => ?_, rfl, ?_⟩⟩
  · obtain ⟨E, h1, h2, hk⟩ := HK6.out
    exact ⟨E, h1, h2, hk.later (below1 _ _)⟩
  · refine ⟨fun e => ?_, fun e => ?_, ?_, fun e => ?_, ?_, fun e => ?_, ?_, ?_, ?_, fun e => ?_, ?_, ?_, ?_⟩
    all_goals first
      | (have := l3 _ e; simp only at this; omega)
      | (simp only; omega)
  · rcases hall k hk with ⟨_, h1, h2⟩ | rfl | rfl | rfl | rfl | rfl
    all_goals omega
  · rw [show (w6.alloc (Obj.cells #[.pointer (some ⟨A.g, 0, none⟩), .pointer (some ⟨v, 0, none⟩), .pointer (some ⟨r, 0, none⟩)] 39)).heap.size = w6.heap.size + 1 by simp]
    rcases hall k hk with ⟨_, h1, h2⟩ | rfl | rfl | rfl | rfl | rfl
    all_goals omega
  · exact (But.below (below_call (below_call (below_call HB2.out HB3.out) HB4.out) HB5.out) HB6.out (fun k hk => by omega)).alloc (by omega) _
end Go.Proofs.Ytlelglfdamakaaa
