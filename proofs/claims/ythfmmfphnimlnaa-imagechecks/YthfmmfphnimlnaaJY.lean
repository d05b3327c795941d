import Derived.Test.YthfmmfphnimlnaaJX
namespace Go.Proofs.Ythfmmfphnimlnaa
open Go.RowKit
set_option linter.unusedVariables false
set_option linter.unusedSimpArgs false
def rdP (q : Qs) : Pc × Qs := (⟨(nmV q 2 65535 : Int), lsV (nmS q 2 65535)⟩, lsS (nmS q 2 65535))
def pzV (q : Qs) : List Pc := (rdL rdP (nmV q 2 32) (nmS q 2 32)).1
def pzS (q : Qs) : Qs := (rdL rdP (nmV q 2 32) (nmS q 2 32)).2
/-- Processes in memory of their own. -/
structure PrO (w : World) (base : Nat) (a : Option Addr) (n c : Nat) (Q : List (Pc × Sl)) : Prop where
  len : Q.length = n
  row : Ow w base 51 2 a n c (Q.map encP).flatten
  each : ∀ p ∈ Q, p.2.n ≤ 32 ∧ Ow w base 65 3 p.2.a p.2.n p.2.c (p.1.l.map encC).flatten
theorem PrO.but {S : Nat → Prop} {w w' : World} {base : Nat} {a : Option Addr} {n c : Nat} {Q : List (Pc × Sl)} (h : PrO w base a n c Q) (hb : But S w w') (hS : ∀ k, base ≤ k → k < w.heap.size → ¬ S k) : PrO w' base a n c Q :=
  ⟨h.len, h.row.but hb (fun j hj => hS j (h.row.blk j hj).1 (h.row.blk j hj).2), fun p hp => ⟨(h.each p hp).1, (h.each p hp).2.but hb (fun k hk => hS k ((h.each p hp).2.blk k hk).1 ((h.each p hp).2.blk k hk).2)⟩⟩
theorem Ow.mono {w : World} {base b2 : Nat} {e : TypeId} {k : Nat} {a : Option Addr} {n cap : Nat} {L : List Value} (h : Ow w base e k a n cap L) (hb : b2 ≤ base) : Ow w b2 e k a n cap L := by
  obtain ⟨h1, h2⟩ := h
  refine ⟨h1, ?_⟩
  rcases h2 with h2 | ⟨g, cp, cur, hv, hg, r⟩
  · exact .inl h2
  · exact .inr ⟨g, cp, cur, hv, Nat.le_trans hb hg, r⟩
theorem rdL_ne {α : Type} {f : Qs → α × Qs} (hf : ∀ q : Qs, (f q).2.1 ≠ [] → q.1 ≠ []) : ∀ n (q : Qs), (rdL f n q).2.1 ≠ [] → q.1 ≠ []
  | 0, q, h => h
  | n + 1, q, h => hf q (rdL_ne hf n (f q).2 h)
theorem ls_ne (q : Qs) (h : (lsS q).1 ≠ []) : q.1 ≠ [] := drop_ne (n := intN q.1 1 32) (rdL_ne (f := rdC) (fun q h => drop_ne (n := capN q.1) h) _ _ h)
set_option maxRecDepth 100000 in
set_option maxHeartbeats 4000000 in
theorem procr_any (r g gb : Nat) (q : Qs) (w : World) (h : Ry w r g gb q) :
    Calls Try.prog 61 #[.pointer (some ⟨r, 0, none⟩)] w fun x w' => ∃ a n c Q, x = .returned (.slice a n c) ∧ n ≤ 32 ∧ Q.map Prod.fst = pzV q ∧ PrO w' w.heap.size a n c Q ∧ Ry w' r g gb (pzS q) ∧ But (RN r g) w w' := by
  have HS : Hid (g < w.heap.size ∧ r < w.heap.size ∧ (q.1 ≠ [] → gb < w.heap.size)) := ⟨h.rd.gl, World.block_lt_of_cell? _ _ h.c0, fun hR => h.rd.gb hR⟩
  have HC := hid (number_any r g gb q 2 32 w h (by omega))
  have hn := nm_le q 2 32 (by omega)
  have HTw := hid two_any
  have HLs := hid listr_any
  unfold pzV pzS
  have HNe : Hid ((nmS q 2 32).1 ≠ [] → q.1 ≠ []) := fun hx => drop_ne (n := intN q.1 2 32) hx
  generalize nmV q 2 32 = n at HC hn ⊢
  generalize nmS q 2 32 = q1 at HC HNe ⊢
  clear h
  go_enter Try.func61, Try.ntmps61
  go_upto_region 3 with (first | (go_at_call 58; refine HC.out.mono ?_; rintro x w1 ⟨rfl, hr1, hb1⟩; have HR1 := hid hr1; have HB1 := hid hb1; clear hr1 hb1))
  go_loopw [3, 7] (fun t i U => ∃ (j : Nat) (a : Option Addr) (c : Nat) (Q : List (Pc × Sl)) (qj : Qs), i = .int .i64 (j : Int) ∧ t = .slice a j c ∧ j ≤ n ∧ rdL rdP n q1 = (Q.map Prod.fst ++ (rdL rdP (n - j) qj).1, (rdL rdP (n - j) qj).2) ∧ (qj.1 ≠ [] → q.1 ≠ []) ∧ PrO U w.heap.size a j c Q ∧ Ry U r g gb qj ∧ But (RN r g) w U) (fun _ i _ => n - ivN i)
  case atStart => exact ⟨0, none, 0, [], q1, rfl, rfl, Nat.zero_le _, by simp, HNe.out, ⟨rfl, Ow.nil _ _ _ _, fun p hp => (by cases hp)⟩, HR1.out, HB1.out⟩
  case round =>
    obtain ⟨j, a, c, Q, qj, rfl, rfl, hj, hE, hne, hO, hR, hB⟩ := hrel
    have HE := hid hE
    have HN2 := hid hne
    have HO := hid hO
    have HR := hid hR
    have HB := hid hB
    clear hE hne hO hR hB
    by_cases hlt : j < n
    · have hd : decide ((j : Int) < (n : Int)) = true := by simp; omega
      have HE3 : Hid (rdL rdP n q1 = ((Q.map Prod.fst ++ [(⟨(nmV qj 2 65535 : Int), lsV (nmS qj 2 65535)⟩ : Pc)]) ++ (rdL rdP (n - (j + 1)) (lsS (nmS qj 2 65535))).1, (rdL rdP (n - (j + 1)) (lsS (nmS qj 2 65535))).2)) := rdL_step HE.out hlt
      have HN3 : Hid ((lsS (nmS qj 2 65535)).1 ≠ [] → q.1 ≠ []) := fun hx => HN2.out (drop_ne (n := intN qj.1 2 65535) (ls_ne _ hx))
      have HC1 := hid (HTw.out r g gb qj wr HR.out)
      have HC2 : Hid (∀ U, Ry U r g gb (nmS qj 2 65535) → _) := fun U hU => HLs.out r g gb (nmS qj 2 65535) U hU
      generalize nmV qj 2 65535 = id at HC1 HE3
      generalize lsV (nmS qj 2 65535) = L at HC2 HE3
      generalize lsS (nmS qj 2 65535) = qk at HC2 HN3 HE3
      generalize nmS qj 2 65535 = q2 at HC1 HC2
      clear HE
      go_upto_region 5 with (first | (go_at_call 57; refine HC1.out.mono ?_; rintro x w2 ⟨rfl, hr2, hb2⟩; have HR2 := hid hr2; have HB2 := hid hb2; clear hr2 hb2))
      go_wp2_with (first
        | (go_at_call 86; refine (HC2.out _ HR2.out).mono ?_; rintro x w4 ⟨a4, m4, c4, rfl, hm4, hl4, ho4, hr4, hb4⟩; obtain ⟨a5, c5, w5, hrun5, hO5, hR5, hB5, hbut5, hge⟩ := ow_read 26 51 _ 2 32 Try.underlying26 info2p rfl (by omega) (by omega) (cs := [.int .i64 (id : Int), .slice a4 m4 c4]) HS.out HO.out.row HB.out (HB2.out.trans hb4) hr4 HN3.out rfl (one2 _ _ _ _) (by omega); have HRUN := hid hrun5; have HO4 := hid ho4; have HB4 := hid hb4; have HO5 := hid hO5; have HR5 := hid hR5; have HB5 := hid hB5; have HBu5 := hid hbut5; have HM4 := hid hm4; clear hm4 hl4 ho4 hr4 hb4 hrun5 hO5 hR5 hB5 hbut5 hge)
        | (at_builtin; refine wpList_append_known rfl _ _ 26 rfl _ _ rfl rfl _ w5 HRUN.out ?_))
      refine ⟨⟨j + 1, a5, c5, Q ++ [(⟨(id : Int), L⟩, ⟨a4, m4, c4⟩)], qk, rfl, rfl, by omega, by rw [List.map_append]; exact HE3.out, HN3.out, ?_, HR5.out, HB5.out⟩, by simp [ivN]; omega⟩
      have hb34 : But (RN r g) wr w4 := HB2.out.trans HB4.out
      have hO4r : Ow w4 w.heap.size 51 2 a j c (Q.map encP).flatten := HO.out.row.but hb34 (fun k hk hk2 => by have := HO.out.row.blk k hk; have := HS.out; rcases hk2 with rfl | rfl <;> omega)
      refine ⟨by simp [HO.out.len], by rw [List.map_append, List.flatten_append]; simpa [encP] using HO5.out, fun p hp => ?_⟩
      have hap : ∀ {x : Option Addr} {m c' : Nat} {B : List Value}, Ow w4 w.heap.size 65 3 x m c' B → Ow w5 w.heap.size 65 3 x m c' B := fun hx => hx.but HBu5.out (fun k hk hk2 => own_apart hx hO4r (by decide) k (Blk.of.2 hk) (Blk.of.2 hk2))
      rcases List.mem_append.1 hp with hp | hp
      · exact ⟨(HO.out.each p hp).1, hap ((HO.out.each p hp).2.but hb34 (fun k hk hk2 => by have := (HO.out.each p hp).2.blk k hk; have := HS.out; rcases hk2 with rfl | rfl <;> omega))⟩
      · rw [List.mem_singleton.1 hp]
        exact ⟨HM4.out, hap (HO4.out.mono (HB.out.trans HB2.out).size)⟩
    · obtain rfl : j = n := by omega
      have e0 : rdL rdP j q1 = (Q.map Prod.fst, qj) := by rw [HE.out, Nat.sub_self]; simp [rdL]
      have HE0 := hid e0
      clear e0
      go_wp2
      go_ret
      rw [HE0.out]
      exact ⟨a, j, c, Q, rfl, by omega, rfl, HO.out, HR.out, HB.out⟩
end Go.Proofs.Ythfmmfphnimlnaa
namespace Go.Proofs.Ythfmmfphnimlnaa
open Go.RowKit
set_option linter.unusedVariables false
set_option linter.unusedSimpArgs false
def rdT (q : Qs) : Tk × Qs := (⟨cpV q, (nmV (cpS q) 1 255 : Int), paV (nmS (cpS q) 1 255)⟩, nmS (nmS (cpS q) 1 255) 2 65535)
def tzV (q : Qs) : List Tk := (rdL rdT (nmV q 2 256) (nmS q 2 256)).1
def tzS (q : Qs) : Qs := (rdL rdT (nmV q 2 256) (nmS q 2 256)).2
set_option maxRecDepth 100000 in
set_option maxHeartbeats 4000000 in
theorem tokr_any (r g gb : Nat) (q : Qs) (w : World) (h : Ry w r g gb q) :
    Calls Try.prog 60 #[.pointer (some ⟨r, 0, none⟩)] w fun x w' => ∃ a n c, x = .returned (.slice a n c) ∧ n ≤ 256 ∧ (tzV q).length = n ∧ Ow w' w.heap.size 67 5 a n c ((tzV q).map encT).flatten ∧ Ry w' r g gb (tzS q) ∧ But (RN r g) w w' := by
  have HS : Hid (g < w.heap.size ∧ r < w.heap.size ∧ (q.1 ≠ [] → gb < w.heap.size)) := ⟨h.rd.gl, World.block_lt_of_cell? _ _ h.c0, fun hR => h.rd.gb hR⟩
  have HC := hid (number_any r g gb q 2 256 w h (by omega))
  have hn := nm_le q 2 256 (by omega)
  have HK := hid capr_any
  have HNu := hid number_any
  have HPa := hid parent_any
  unfold tzV tzS
  have HNe : Hid ((nmS q 2 256).1 ≠ [] → q.1 ≠ []) := fun hx => drop_ne (n := intN q.1 2 256) hx
  generalize nmV q 2 256 = n at HC hn ⊢
  generalize nmS q 2 256 = q1 at HC HNe ⊢
  clear h
  go_enter Try.func60, Try.ntmps60
  go_upto_region 3 with (first | (go_at_call 58; refine HC.out.mono ?_; rintro x w1 ⟨rfl, hr1, hb1⟩; have HR1 := hid hr1; have HB1 := hid hb1; clear hr1 hb1))
  go_loopw [3, 8] (fun t i U => ∃ (j : Nat) (a : Option Addr) (c : Nat) (L : List Tk) (qj : Qs), i = .int .i64 (j : Int) ∧ t = .slice a j c ∧ j ≤ n ∧ L.length = j ∧ rdL rdT n q1 = (L ++ (rdL rdT (n - j) qj).1, (rdL rdT (n - j) qj).2) ∧ (qj.1 ≠ [] → q.1 ≠ []) ∧ Ow U w.heap.size 67 5 a j c (L.map encT).flatten ∧ Ry U r g gb qj ∧ But (RN r g) w U) (fun _ i _ => n - ivN i)
  case atStart => exact ⟨0, none, 0, [], q1, rfl, rfl, Nat.zero_le _, rfl, by simp, HNe.out, Ow.nil _ _ _ _, HR1.out, HB1.out⟩
  case round =>
    obtain ⟨j, a, c, L, qj, rfl, rfl, hj, hL, hE, hne, hO, hR, hB⟩ := hrel
    have HE := hid hE
    have HN2 := hid hne
    have HO := hid hO
    have HR := hid hR
    have HB := hid hB
    have HLl := hid hL
    clear hE hne hO hR hB hL
    by_cases hlt : j < n
    · have hd : decide ((j : Int) < (n : Int)) = true := by simp; omega
      have HE3 : Hid (rdL rdT n q1 = ((L ++ [(⟨cpV qj, (nmV (cpS qj) 1 255 : Int), paV (nmS (cpS qj) 1 255)⟩ : Tk)]) ++ (rdL rdT (n - (j + 1)) (nmS (nmS (cpS qj) 1 255) 2 65535)).1, (rdL rdT (n - (j + 1)) (nmS (nmS (cpS qj) 1 255) 2 65535)).2)) := rdL_step HE.out hlt
      have HN3 : Hid ((nmS (nmS (cpS qj) 1 255) 2 65535).1 ≠ [] → q.1 ≠ []) := fun hx => HN2.out (drop_ne (n := capN qj.1) (drop_ne (n := intN (cpS qj).1 1 255) (drop_ne (n := intN (nmS (cpS qj) 1 255).1 2 65535) hx)))
      have HC1 := hid (HK.out r g gb qj wr HR.out)
      have HC2 : Hid (∀ U, Ry U r g gb (cpS qj) → _) := fun U hU => HNu.out r g gb (cpS qj) 1 255 U hU (by omega)
      have HC3 : Hid (∀ U, Ry U r g gb (nmS (cpS qj) 1 255) → _) := fun U hU => HPa.out r g gb (nmS (cpS qj) 1 255) U hU
      generalize nmV (cpS qj) 1 255 = rt at HC2 HE3
      generalize paV (nmS (cpS qj) 1 255) = pa at HC3 HE3
      generalize nmS (nmS (cpS qj) 1 255) 2 65535 = qk at HC3 HN3 HE3
      generalize nmS (cpS qj) 1 255 = q3 at HC2 HC3
      generalize cpV qj = v at HC1 HE3
      generalize cpS qj = q2 at HC1 HC2
      obtain ⟨vo, vh, vl⟩ := v
      simp only at HC1
      clear HE
      go_upto_region 5 with (first | (go_at_call 84; refine HC1.out.mono ?_; rintro x w2 ⟨rfl, hr2, hb2⟩; have HR2 := hid hr2; have HB2 := hid hb2; clear hr2 hb2))
      obtain ⟨V, hV⟩ : ∃ V, V = w2.alloc (Obj.cells #[.int .i64 vo, .int .u64 (vh : Int), .int .u64 (vl : Int)] 65) := ⟨_, rfl⟩
      rw [← hV]
      have HBn : Hid (Below w2.heap.size w2 V) := by rw [hV]; exact below1 _ _
      have HCl : Hid (∀ X Y, But (RN r g) V X → But (Blk a) X Y → Y.cell? ⟨w2.heap.size, 0, none⟩ = some (.int .i64 vo) ∧ Y.cell? ⟨w2.heap.size, 1, none⟩ = some (.int .u64 (vh : Int)) ∧ Y.cell? ⟨w2.heap.size, 2, none⟩ = some (.int .u64 (vl : Int))) := fun X Y hX hY => by
        have hw2 := (HB.out.trans HB2.out).size
        have hn1 : ¬ RN r g w2.heap.size := fun hk => by have := HS.out; rcases hk with hk | hk <;> omega
        have hn2 : ¬ Blk a w2.heap.size := fun hk => by have := HO.out.blk _ hk; have := HB2.out.size; omega
        exact ⟨cell_but hY (cell_but hX (by rw [hV]; simp [go_sem]) hn1) hn2, cell_but hY (cell_but hX (by rw [hV]; simp [go_sem]) hn1) hn2, cell_but hY (cell_but hX (by rw [hV]; simp [go_sem]) hn1) hn2⟩
      have HRV := hid (HR2.out.later HBn.out)
      have HBV : Hid (But (RN r g) wr V) := HB2.out.trans (But.of HBn.out)
      obtain ⟨b5, hb5⟩ : ∃ b5, b5 = w2.heap.size := ⟨_, rfl⟩
      rw [← hb5] at HCl ⊢
      clear hV hb5 HBn HB2
      go_upto_region 6 with (first | (go_at_call 58; refine (HC2.out _ HRV.out).mono ?_; rintro x w3 ⟨rfl, hr3, hb3⟩; have HR3 := hid hr3; have HB3 := hid hb3; clear hr3 hb3))
      have S0 := HCl.out _ _ HB3.out (But.of (Below.refl _ _).drew)
      go_region_held3 (fun X => X.cell? ⟨b5, 0, none⟩ = some (.int .i64 vo) ∧ X.cell? ⟨b5, 1, none⟩ = some (.int .u64 (vh : Int)) ∧ X.cell? ⟨b5, 2, none⟩ = some (.int .u64 (vl : Int))) (first | exact S5 | exact S4a | exact S4 | exact S0) (first
        | (go_at_call 85; refine (HC3.out _ (HR3.out.later (Below.refl _ _).drew)).mono ?_; rintro x w4 ⟨rfl, hr4, hb4⟩; have HB4 := hid ((But.of (S := RN r g) (Below.refl w3.heap.size w3).drew).trans hb4); obtain ⟨a5, c5, w5, hrun5, hO5, hR5, hB5, hbut5, _⟩ := ow_read 25 67 _ 5 40 Try.underlying25 info5t rfl (by omega) (by omega) (cs := [.int .i64 vo, .int .u64 (vh : Int), .int .u64 (vl : Int), .int .i64 (rt : Int), .int .i64 pa]) HS.out HO.out HB.out (HBV.out.trans (HB3.out.trans HB4.out)) hr4 HN3.out rfl (one5 _ _ _ _ _) (by omega); have HRUN := hid hrun5; have HO5 := hid hO5; have HR5 := hid hR5; have HB5 := hid hB5; have S4 := HCl.out _ _ (HB3.out.trans HB4.out) (But.refl _ _); have S4a := HCl.out _ _ ((HB3.out.trans HB4.out).trans (But.of (below1 w4 (Obj.cells #[.int .i64 vo, .int .u64 (vh : Int), .int .u64 (vl : Int), .int .i64 (rt : Int), .int .i64 pa] 67)))) (But.refl _ _); have S5 := HCl.out _ _ (HB3.out.trans HB4.out) hbut5; clear hr4 hb4 hrun5 hO5 hR5 hB5 hbut5)
        | (refine wp_append_known (.tmp 14) (.tmp 20) 25 rfl (.slice a j c) (.slice (some ⟨w4.heap.size, 0, none⟩) 1 1) rfl rfl (.slice a5 (j + 1) c5) w5 HRUN.out ?_))
      go_wp2
      exact ⟨⟨j + 1, a5, c5, _, qk, rfl, rfl, by omega, by simp [HLl.out], HE3.out, HN3.out, by rw [List.map_append, List.flatten_append]; simpa [encT] using HO5.out, HR5.out, HB5.out⟩, by simp [ivN]; omega⟩
    · obtain rfl : j = n := by omega
      have e0 : rdL rdT j q1 = (L, qj) := by rw [HE.out, Nat.sub_self]; simp [rdL]
      have HE0 := hid e0
      clear e0
      go_wp2
      go_ret
      rw [HE0.out]
      exact ⟨a, j, c, rfl, by omega, HLl.out, HO.out, HR.out, HB.out⟩
end Go.Proofs.Ythfmmfphnimlnaa
namespace Go.Proofs.Ythfmmfphnimlnaa
open Go.RowKit
set_option linter.unusedVariables false
set_option linter.unusedSimpArgs false
theorem lvF {w : World} {b o : Nat} {L : List Value} (h : w.rangeAt b o L) (hl : L.length = 10) : (loadVar 23 ⟨b, o, none⟩).run Try.prog w = .ok (.agg L.toArray) w :=
  run_loadVar_mid w b o 23 L _ h Try.underlying23 rfl (by rw [infoF, hl])
theorem lvS {w : World} {b o : Nat} {L : List Value} (h : w.rangeAt b o L) (hl : L.length = 6) : (loadVar 28 ⟨b, o, none⟩).run Try.prog w = .ok (.agg L.toArray) w :=
  run_loadVar_mid w b o 28 L _ h Try.underlying28 rfl (by rw [infoS, hl])
theorem stF {w : World} {b o : Nat} {L : List Value} (h : w.there b o 10) (hl : L.length = 10) (h1 : ∀ v ∈ L, v.oneCell' = true) : (Instr.storeAt 23 (.pointer (some ⟨b, o, none⟩)) (.agg L.toArray)).run Try.prog w = .ok () (w.setCells b o L) :=
  run_storeAt_mid w b o 23 L.toArray (by simpa [hl] using h) (by rw [infoF]; simp [hl]) (all_oneCell_toArray h1)
theorem stS {w : World} {b o : Nat} {L : List Value} (h : w.there b o 6) (hl : L.length = 6) (h1 : ∀ v ∈ L, v.oneCell' = true) : (Instr.storeAt 28 (.pointer (some ⟨b, o, none⟩)) (.agg L.toArray)).run Try.prog w = .ok () (w.setCells b o L) :=
  run_storeAt_mid w b o 28 L.toArray (by simpa [hl] using h) (by rw [infoS]; simp [hl]) (all_oneCell_toArray h1)
theorem cf_one (c : Cf) : ∀ v ∈ c.L, v.oneCell' = true := by
  intro v hv
  simp only [Cf.L, List.mem_cons, List.mem_nil_iff, or_false] at hv
  rcases hv with rfl | rfl | rfl | rfl | rfl | rfl | rfl | rfl | rfl | rfl <;> rfl
def stL (a b c : Sl) (x y z : Int) : List Value := [.slice a.a a.n a.c, .slice b.a b.n b.c, .slice c.a c.n c.c, .int .i64 x, .int .i64 y, .int .i64 z]
theorem st_one (a b c : Sl) (x y z : Int) : ∀ v ∈ stL a b c x y z, v.oneCell' = true := by
  intro v hv
  simp only [stL, List.mem_cons, List.mem_nil_iff, or_false] at hv
  rcases hv with rfl | rfl | rfl | rfl | rfl | rfl <;> rfl
theorem Bx.set1 {w : World} {b : Nat} {L : List Value} (h : Bx w b L) (j : Nat) (v : Value) (hj : j < L.length) : Bx (w.setCell ⟨b, j, none⟩ v) b (L.set j v) := by
  refine ⟨fun i u hu => ?_, fun i hi => ?_⟩
  · rw [Nat.zero_add]
    by_cases e : i = j
    · subst e
      rw [List.getElem?_set_self hj] at hu
      cases hu
      have := h.cell i (List.getElem?_eq_getElem hj)
      exact World.cell?_setCell_same _ _ _ this
    · rw [List.getElem?_set_ne (fun h => e h.symm)] at hu
      rw [World.cell?_setCell_other _ _ _ _ (fun e2 => e (by simpa using (congrArg Addr.off e2).symm))]
      exact h.cell i hu
  · have hi' : i < L.length := by simpa using hi
    obtain ⟨h1, h2⟩ := h.there i hi'
    obtain ⟨u, hu⟩ := Option.isSome_iff_exists.1 h1
    obtain ⟨u', hu'⟩ := cell?_setCell_some (w := w) (p := ⟨b, j, none⟩) (x := v) (q := ⟨b, 0 + i, none⟩) (v := u) hu
    exact ⟨by rw [hu']; rfl, by rw [World.frozen?_setCell]; exact h2⟩
/-- A reader at work, with two boxes: the result's and one's own. -/
structure Tb (w U : World) (r g gb : Nat) (q0 q : Qs) (Z L : List Value) : Prop where
  ry : Ry U r g gb q
  bt : But (RN r g) w U
  b0 : Bx U w.heap.size Z
  b1 : Bx U (w.heap.size + 1) L
  ne : q.1 ≠ [] → q0.1 ≠ []
  sr : r < w.heap.size
  sg : g < w.heap.size
  sb : q0.1 ≠ [] → gb < w.heap.size
  sz : w.heap.size + 2 ≤ U.heap.size
theorem Tb.new {w : World} {r g gb : Nat} {q : Qs} (h : Ry w r g gb q) (Z L : List Value) (t : TypeId) : Tb w ((w.alloc (Obj.cells Z.toArray t)).alloc (Obj.cells L.toArray t)) r g gb q q Z L :=
  ⟨h.later (below2 _ _ _), But.of (below2 _ _ _), (Bx.new w Z t).later (below1 _ _), by have := Bx.new (w.alloc (Obj.cells Z.toArray t)) L t; simp at this; exact this, fun h => h, World.block_lt_of_cell? _ _ h.c0, h.rd.gl, fun hR => h.rd.gb hR, by simp⟩
theorem Tb.went {w U U2 : World} {r g gb : Nat} {q0 q q2 : Qs} {Z L : List Value} (h : Tb w U r g gb q0 q Z L) (hb : But (RN r g) U U2) (hr : Ry U2 r g gb q2) (hn : q2.1 ≠ [] → q.1 ≠ []) : Tb w U2 r g gb q0 q2 Z L :=
  ⟨hr, h.bt.trans hb, h.b0.but hb (fun hk => by have := h.sr; have := h.sg; rcases hk with hk | hk <;> omega), h.b1.but hb (fun hk => by have := h.sr; have := h.sg; rcases hk with hk | hk <;> omega), fun hx => h.ne (hn hx), h.sr, h.sg, h.sb, Nat.le_trans h.sz hb.size⟩
theorem Tb.put {w U : World} {r g gb : Nat} {q0 q : Qs} {Z L : List Value} (h : Tb w U r g gb q0 q Z L) (j : Nat) (v : Value) (hj : j < L.length) : Tb w (U.setCell ⟨w.heap.size + 1, j, none⟩ v) r g gb q0 q Z (L.set j v) := by
  have hb : But (· = w.heap.size + 1) U (U.setCell ⟨w.heap.size + 1, j, none⟩ v) := (But.refl (· = w.heap.size + 1) _).setCell (p := ⟨w.heap.size + 1, j, none⟩) rfl v
  exact ⟨h.ry.but hb (by have := h.sr; omega) (by have := h.sg; omega) (fun hx => by have := h.sb (h.ne hx); omega), h.bt.comp hb (fun i hi => .inr (by omega)), h.b0.but hb (by omega), h.b1.set1 j v hj, h.ne, h.sr, h.sg, h.sb, Nat.le_trans h.sz hb.size⟩
theorem Tb.go {w U U2 : World} {r g gb : Nat} {q0 q q2 : Qs} {Z L : List Value} (h : Tb w U r g gb q0 q Z L) (j : Nat) (v y : Value) (hy : L[j]? = some y) (hb : But (RN r g) U U2) (hr : Ry U2 r g gb q2) (hn : q2.1 ≠ [] → q.1 ≠ []) : (U2.cell? ⟨w.heap.size + 1, j, none⟩ = some y ∧ U2.frozen? ⟨w.heap.size + 1, j, none⟩ = false) ∧ Tb w (U2.setCell ⟨w.heap.size + 1, j, none⟩ v) r g gb q0 q2 Z (L.set j v) := by
  have h2 := h.went hb hr hn
  have hj := (List.getElem?_eq_some_iff.1 hy).1
  exact ⟨⟨h2.b1.cell j hy, by have := (h2.b1.there j hj).2; rwa [Nat.zero_add] at this⟩, h2.put j v hj⟩
theorem Tb.fin {w U : World} {r g gb : Nat} {q0 q : Qs} {Z L : List Value} (h : Tb w U r g gb q0 q Z L) (hl : L.length = Z.length) : Tb w (U.setCells w.heap.size 0 L) r g gb q0 q L L := by
  have hb : But (· = w.heap.size) U (U.setCells w.heap.size 0 L) := setCells_but (S := (· = w.heap.size)) rfl L 0 (But.refl _ _)
  exact ⟨h.ry.but hb (by have := h.sr; omega) (by have := h.sg; omega) (fun hx => by have := h.sb (h.ne hx); omega), h.bt.comp hb (fun i hi => .inr (by omega)), h.b0.set hl, h.b1.but hb (by omega), h.ne, h.sr, h.sg, h.sb, Nat.le_trans h.sz hb.size⟩
def cS (q : Qs) : Nat → Qs
  | 0 => q
  | n + 1 => nmS (cS q n) 2 65535
def cfV (q : Qs) : Cf := ⟨(nmV (cS q 0) 2 65535 : Int), (nmV (cS q 1) 2 65535 : Int), (nmV (cS q 2) 2 65535 : Int), (nmV (cS q 3) 2 65535 : Int), (nmV (cS q 4) 2 65535 : Int), (nmV (cS q 5) 2 65535 : Int), (nmV (cS q 6) 2 65535 : Int), (nmV (cS q 7) 2 65535 : Int), (nmV (cS q 8) 2 65535 : Int), (nmV (cS q 9) 2 65535 : Int)⟩
def cfS (q : Qs) : Qs := cS q 10
theorem cS_two (r g gb : Nat) (q : Qs) (i : Nat) (U : World) (hU : Ry U r g gb (cS q i)) : Calls Try.prog 57 #[.pointer (some ⟨r, 0, none⟩)] U fun x w' => x = .returned (.int .i64 (nmV (cS q i) 2 65535 : Int)) ∧ Ry w' r g gb (cS q (i + 1)) ∧ But (RN r g) U w' := two_any r g gb (cS q i) U hU
theorem cS_ne (q : Qs) (i : Nat) (hx : (cS q (i + 1)).1 ≠ []) : (cS q i).1 ≠ [] := drop_ne (n := intN (cS q i).1 2 65535) hx
set_option maxRecDepth 100000 in
set_option maxHeartbeats 4000000 in
theorem config_any (r g gb : Nat) (q : Qs) (w : World) (h : Ry w r g gb q) :
    Calls Try.prog 31 #[.pointer (some ⟨r, 0, none⟩)] w fun x w' => x = .returned (cfV q).v ∧ Ry w' r g gb (cfS q) ∧ But (RN r g) w w' := by
  obtain ⟨U0, hU0⟩ : ∃ U, U = (w.alloc (Obj.cells #[.int .i64 0, .int .i64 0, .int .i64 0, .int .i64 0, .int .i64 0, .int .i64 0, .int .i64 0, .int .i64 0, .int .i64 0, .int .i64 0] 23)).alloc (Obj.cells #[.int .i64 0, .int .i64 0, .int .i64 0, .int .i64 0, .int .i64 0, .int .i64 0, .int .i64 0, .int .i64 0, .int .i64 0, .int .i64 0] 23) := ⟨_, rfl⟩
  have HT0 : Hid (Tb w U0 r g gb q (cS q 0) [.int .i64 0, .int .i64 0, .int .i64 0, .int .i64 0, .int .i64 0, .int .i64 0, .int .i64 0, .int .i64 0, .int .i64 0, .int .i64 0] [.int .i64 0, .int .i64 0, .int .i64 0, .int .i64 0, .int .i64 0, .int .i64 0, .int .i64 0, .int .i64 0, .int .i64 0, .int .i64 0]) := by rw [hU0]; exact Tb.new h [.int .i64 0, .int .i64 0, .int .i64 0, .int .i64 0, .int .i64 0, .int .i64 0, .int .i64 0, .int .i64 0, .int .i64 0, .int .i64 0] [.int .i64 0, .int .i64 0, .int .i64 0, .int .i64 0, .int .i64 0, .int .i64 0, .int .i64 0, .int .i64 0, .int .i64 0, .int .i64 0] _
  have HU0 := hid hU0
  clear hU0 h
  unfold cfV cfS Cf.v
  simp only
  have HC0 : Hid (∀ U, Ry U r g gb (cS q 0) → Calls Try.prog 57 #[.pointer (some ⟨r, 0, none⟩)] U fun x w' => x = .returned (.int .i64 (nmV (cS q 0) 2 65535 : Int)) ∧ Ry w' r g gb (cS q 1) ∧ But (RN r g) U w') := cS_two r g gb q 0
  have HN0 : Hid ((cS q 1).1 ≠ [] → (cS q 0).1 ≠ []) := cS_ne q 0
  have HC1 : Hid (∀ U, Ry U r g gb (cS q 1) → Calls Try.prog 57 #[.pointer (some ⟨r, 0, none⟩)] U fun x w' => x = .returned (.int .i64 (nmV (cS q 1) 2 65535 : Int)) ∧ Ry w' r g gb (cS q 2) ∧ But (RN r g) U w') := cS_two r g gb q 1
  have HN1 : Hid ((cS q 2).1 ≠ [] → (cS q 1).1 ≠ []) := cS_ne q 1
  have HC2 : Hid (∀ U, Ry U r g gb (cS q 2) → Calls Try.prog 57 #[.pointer (some ⟨r, 0, none⟩)] U fun x w' => x = .returned (.int .i64 (nmV (cS q 2) 2 65535 : Int)) ∧ Ry w' r g gb (cS q 3) ∧ But (RN r g) U w') := cS_two r g gb q 2
  have HN2 : Hid ((cS q 3).1 ≠ [] → (cS q 2).1 ≠ []) := cS_ne q 2
  have HC3 : Hid (∀ U, Ry U r g gb (cS q 3) → Calls Try.prog 57 #[.pointer (some ⟨r, 0, none⟩)] U fun x w' => x = .returned (.int .i64 (nmV (cS q 3) 2 65535 : Int)) ∧ Ry w' r g gb (cS q 4) ∧ But (RN r g) U w') := cS_two r g gb q 3
  have HN3 : Hid ((cS q 4).1 ≠ [] → (cS q 3).1 ≠ []) := cS_ne q 3
  have HC4 : Hid (∀ U, Ry U r g gb (cS q 4) → Calls Try.prog 57 #[.pointer (some ⟨r, 0, none⟩)] U fun x w' => x = .returned (.int .i64 (nmV (cS q 4) 2 65535 : Int)) ∧ Ry w' r g gb (cS q 5) ∧ But (RN r g) U w') := cS_two r g gb q 4
  have HN4 : Hid ((cS q 5).1 ≠ [] → (cS q 4).1 ≠ []) := cS_ne q 4
  have HC5 : Hid (∀ U, Ry U r g gb (cS q 5) → Calls Try.prog 57 #[.pointer (some ⟨r, 0, none⟩)] U fun x w' => x = .returned (.int .i64 (nmV (cS q 5) 2 65535 : Int)) ∧ Ry w' r g gb (cS q 6) ∧ But (RN r g) U w') := cS_two r g gb q 5
  have HN5 : Hid ((cS q 6).1 ≠ [] → (cS q 5).1 ≠ []) := cS_ne q 5
  have HC6 : Hid (∀ U, Ry U r g gb (cS q 6) → Calls Try.prog 57 #[.pointer (some ⟨r, 0, none⟩)] U fun x w' => x = .returned (.int .i64 (nmV (cS q 6) 2 65535 : Int)) ∧ Ry w' r g gb (cS q 7) ∧ But (RN r g) U w') := cS_two r g gb q 6
  have HN6 : Hid ((cS q 7).1 ≠ [] → (cS q 6).1 ≠ []) := cS_ne q 6
  have HC7 : Hid (∀ U, Ry U r g gb (cS q 7) → Calls Try.prog 57 #[.pointer (some ⟨r, 0, none⟩)] U fun x w' => x = .returned (.int .i64 (nmV (cS q 7) 2 65535 : Int)) ∧ Ry w' r g gb (cS q 8) ∧ But (RN r g) U w') := cS_two r g gb q 7
  have HN7 : Hid ((cS q 8).1 ≠ [] → (cS q 7).1 ≠ []) := cS_ne q 7
  have HC8 : Hid (∀ U, Ry U r g gb (cS q 8) → Calls Try.prog 57 #[.pointer (some ⟨r, 0, none⟩)] U fun x w' => x = .returned (.int .i64 (nmV (cS q 8) 2 65535 : Int)) ∧ Ry w' r g gb (cS q 9) ∧ But (RN r g) U w') := cS_two r g gb q 8
  have HN8 : Hid ((cS q 9).1 ≠ [] → (cS q 8).1 ≠ []) := cS_ne q 8
  have HC9 : Hid (∀ U, Ry U r g gb (cS q 9) → Calls Try.prog 57 #[.pointer (some ⟨r, 0, none⟩)] U fun x w' => x = .returned (.int .i64 (nmV (cS q 9) 2 65535 : Int)) ∧ Ry w' r g gb (cS q 10) ∧ But (RN r g) U w') := cS_two r g gb q 9
  have HN9 : Hid ((cS q 10).1 ≠ [] → (cS q 9).1 ≠ []) := cS_ne q 9
  generalize nmV (cS q 0) 2 65535 = x0 at HC0 ⊢
  generalize nmV (cS q 1) 2 65535 = x1 at HC1 ⊢
  generalize nmV (cS q 2) 2 65535 = x2 at HC2 ⊢
  generalize nmV (cS q 3) 2 65535 = x3 at HC3 ⊢
  generalize nmV (cS q 4) 2 65535 = x4 at HC4 ⊢
  generalize nmV (cS q 5) 2 65535 = x5 at HC5 ⊢
  generalize nmV (cS q 6) 2 65535 = x6 at HC6 ⊢
  generalize nmV (cS q 7) 2 65535 = x7 at HC7 ⊢
  generalize nmV (cS q 8) 2 65535 = x8 at HC8 ⊢
  generalize nmV (cS q 9) 2 65535 = x9 at HC9 ⊢
  generalize cS q 10 = q10 at *
  generalize cS q 9 = q9 at *
  generalize cS q 8 = q8 at *
  generalize cS q 7 = q7 at *
  generalize cS q 6 = q6 at *
  generalize cS q 5 = q5 at *
  generalize cS q 4 = q4 at *
  generalize cS q 3 = q3 at *
  generalize cS q 2 = q2 at *
  generalize cS q 1 = q1 at *
  go_enter Try.func31, Try.ntmps31
  go_upto_region 2 with fail
  rw [← HU0.out]
  go_upto_region 3 with (first | (go_at_call 57; refine (HC0.out _ HT0.out.ry).mono ?_; rintro x u0 ⟨rfl, hr, hb⟩; obtain ⟨⟨z0, f0⟩, ht⟩ := HT0.out.go 0 (.int .i64 (x0 : Int)) (.int .i64 0) rfl hb hr HN0.out; have HT1 : Hid (Tb w (u0.setCell ⟨w.heap.size + 1, 0, none⟩ (.int .i64 (x0 : Int))) r g gb q q1 [.int .i64 0, .int .i64 0, .int .i64 0, .int .i64 0, .int .i64 0, .int .i64 0, .int .i64 0, .int .i64 0, .int .i64 0, .int .i64 0] [.int .i64 (x0 : Int), .int .i64 0, .int .i64 0, .int .i64 0, .int .i64 0, .int .i64 0, .int .i64 0, .int .i64 0, .int .i64 0, .int .i64 0]) := ht; clear hr hb ht))
  obtain ⟨U1, hU⟩ : ∃ U, U = u0.setCell ⟨w.heap.size + 1, 0, none⟩ (.int .i64 (x0 : Int)) := ⟨_, rfl⟩
  rw [← hU] at HT1 ⊢
  clear z0 f0 hU HT0 HC0 HN0
  go_upto_region 4 with (first | (go_at_call 57; refine (HC1.out _ HT1.out.ry).mono ?_; rintro x u1 ⟨rfl, hr, hb⟩; obtain ⟨⟨z1, f1⟩, ht⟩ := HT1.out.go 1 (.int .i64 (x1 : Int)) (.int .i64 0) rfl hb hr HN1.out; have HT2 : Hid (Tb w (u1.setCell ⟨w.heap.size + 1, 1, none⟩ (.int .i64 (x1 : Int))) r g gb q q2 [.int .i64 0, .int .i64 0, .int .i64 0, .int .i64 0, .int .i64 0, .int .i64 0, .int .i64 0, .int .i64 0, .int .i64 0, .int .i64 0] [.int .i64 (x0 : Int), .int .i64 (x1 : Int), .int .i64 0, .int .i64 0, .int .i64 0, .int .i64 0, .int .i64 0, .int .i64 0, .int .i64 0, .int .i64 0]) := ht; clear hr hb ht))
  obtain ⟨U2, hU⟩ : ∃ U, U = u1.setCell ⟨w.heap.size + 1, 1, none⟩ (.int .i64 (x1 : Int)) := ⟨_, rfl⟩
  rw [← hU] at HT2 ⊢
  clear z1 f1 hU HT1 HC1 HN1
  go_upto_region 5 with (first | (go_at_call 57; refine (HC2.out _ HT2.out.ry).mono ?_; rintro x u2 ⟨rfl, hr, hb⟩; obtain ⟨⟨z2, f2⟩, ht⟩ := HT2.out.go 2 (.int .i64 (x2 : Int)) (.int .i64 0) rfl hb hr HN2.out; have HT3 : Hid (Tb w (u2.setCell ⟨w.heap.size + 1, 2, none⟩ (.int .i64 (x2 : Int))) r g gb q q3 [.int .i64 0, .int .i64 0, .int .i64 0, .int .i64 0, .int .i64 0, .int .i64 0, .int .i64 0, .int .i64 0, .int .i64 0, .int .i64 0] [.int .i64 (x0 : Int), .int .i64 (x1 : Int), .int .i64 (x2 : Int), .int .i64 0, .int .i64 0, .int .i64 0, .int .i64 0, .int .i64 0, .int .i64 0, .int .i64 0]) := ht; clear hr hb ht))
  obtain ⟨U3, hU⟩ : ∃ U, U = u2.setCell ⟨w.heap.size + 1, 2, none⟩ (.int .i64 (x2 : Int)) := ⟨_, rfl⟩
  rw [← hU] at HT3 ⊢
  clear z2 f2 hU HT2 HC2 HN2
  go_upto_region 6 with (first | (go_at_call 57; refine (HC3.out _ HT3.out.ry).mono ?_; rintro x u3 ⟨rfl, hr, hb⟩; obtain ⟨⟨z3, f3⟩, ht⟩ := HT3.out.go 3 (.int .i64 (x3 : Int)) (.int .i64 0) rfl hb hr HN3.out; have HT4 : Hid (Tb w (u3.setCell ⟨w.heap.size + 1, 3, none⟩ (.int .i64 (x3 : Int))) r g gb q q4 [.int .i64 0, .int .i64 0, .int .i64 0, .int .i64 0, .int .i64 0, .int .i64 0, .int .i64 0, .int .i64 0, .int .i64 0, .int .i64 0] [.int .i64 (x0 : Int), .int .i64 (x1 : Int), .int .i64 (x2 : Int), .int .i64 (x3 : Int), .int .i64 0, .int .i64 0, .int .i64 0, .int .i64 0, .int .i64 0, .int .i64 0]) := ht; clear hr hb ht))
  obtain ⟨U4, hU⟩ : ∃ U, U = u3.setCell ⟨w.heap.size + 1, 3, none⟩ (.int .i64 (x3 : Int)) := ⟨_, rfl⟩
  rw [← hU] at HT4 ⊢
  clear z3 f3 hU HT3 HC3 HN3
  go_upto_region 7 with (first | (go_at_call 57; refine (HC4.out _ HT4.out.ry).mono ?_; rintro x u4 ⟨rfl, hr, hb⟩; obtain ⟨⟨z4, f4⟩, ht⟩ := HT4.out.go 4 (.int .i64 (x4 : Int)) (.int .i64 0) rfl hb hr HN4.out; have HT5 : Hid (Tb w (u4.setCell ⟨w.heap.size + 1, 4, none⟩ (.int .i64 (x4 : Int))) r g gb q q5 [.int .i64 0, .int .i64 0, .int .i64 0, .int .i64 0, .int .i64 0, .int .i64 0, .int .i64 0, .int .i64 0, .int .i64 0, .int .i64 0] [.int .i64 (x0 : Int), .int .i64 (x1 : Int), .int .i64 (x2 : Int), .int .i64 (x3 : Int), .int .i64 (x4 : Int), .int .i64 0, .int .i64 0, .int .i64 0, .int .i64 0, .int .i64 0]) := ht; clear hr hb ht))
  obtain ⟨U5, hU⟩ : ∃ U, U = u4.setCell ⟨w.heap.size + 1, 4, none⟩ (.int .i64 (x4 : Int)) := ⟨_, rfl⟩
  rw [← hU] at HT5 ⊢
  clear z4 f4 hU HT4 HC4 HN4
  go_upto_region 8 with (first | (go_at_call 57; refine (HC5.out _ HT5.out.ry).mono ?_; rintro x u5 ⟨rfl, hr, hb⟩; obtain ⟨⟨z5, f5⟩, ht⟩ := HT5.out.go 5 (.int .i64 (x5 : Int)) (.int .i64 0) rfl hb hr HN5.out; have HT6 : Hid (Tb w (u5.setCell ⟨w.heap.size + 1, 5, none⟩ (.int .i64 (x5 : Int))) r g gb q q6 [.int .i64 0, .int .i64 0, .int .i64 0, .int .i64 0, .int .i64 0, .int .i64 0, .int .i64 0, .int .i64 0, .int .i64 0, .int .i64 0] [.int .i64 (x0 : Int), .int .i64 (x1 : Int), .int .i64 (x2 : Int), .int .i64 (x3 : Int), .int .i64 (x4 : Int), .int .i64 (x5 : Int), .int .i64 0, .int .i64 0, .int .i64 0, .int .i64 0]) := ht; clear hr hb ht))
  obtain ⟨U6, hU⟩ : ∃ U, U = u5.setCell ⟨w.heap.size + 1, 5, none⟩ (.int .i64 (x5 : Int)) := ⟨_, rfl⟩
  rw [← hU] at HT6 ⊢
  clear z5 f5 hU HT5 HC5 HN5
  go_upto_region 9 with (first | (go_at_call 57; refine (HC6.out _ HT6.out.ry).mono ?_; rintro x u6 ⟨rfl, hr, hb⟩; obtain ⟨⟨z6, f6⟩, ht⟩ := HT6.out.go 6 (.int .i64 (x6 : Int)) (.int .i64 0) rfl hb hr HN6.out; have HT7 : Hid (Tb w (u6.setCell ⟨w.heap.size + 1, 6, none⟩ (.int .i64 (x6 : Int))) r g gb q q7 [.int .i64 0, .int .i64 0, .int .i64 0, .int .i64 0, .int .i64 0, .int .i64 0, .int .i64 0, .int .i64 0, .int .i64 0, .int .i64 0] [.int .i64 (x0 : Int), .int .i64 (x1 : Int), .int .i64 (x2 : Int), .int .i64 (x3 : Int), .int .i64 (x4 : Int), .int .i64 (x5 : Int), .int .i64 (x6 : Int), .int .i64 0, .int .i64 0, .int .i64 0]) := ht; clear hr hb ht))
  obtain ⟨U7, hU⟩ : ∃ U, U = u6.setCell ⟨w.heap.size + 1, 6, none⟩ (.int .i64 (x6 : Int)) := ⟨_, rfl⟩
  rw [← hU] at HT7 ⊢
  clear z6 f6 hU HT6 HC6 HN6
  go_upto_region 10 with (first | (go_at_call 57; refine (HC7.out _ HT7.out.ry).mono ?_; rintro x u7 ⟨rfl, hr, hb⟩; obtain ⟨⟨z7, f7⟩, ht⟩ := HT7.out.go 7 (.int .i64 (x7 : Int)) (.int .i64 0) rfl hb hr HN7.out; have HT8 : Hid (Tb w (u7.setCell ⟨w.heap.size + 1, 7, none⟩ (.int .i64 (x7 : Int))) r g gb q q8 [.int .i64 0, .int .i64 0, .int .i64 0, .int .i64 0, .int .i64 0, .int .i64 0, .int .i64 0, .int .i64 0, .int .i64 0, .int .i64 0] [.int .i64 (x0 : Int), .int .i64 (x1 : Int), .int .i64 (x2 : Int), .int .i64 (x3 : Int), .int .i64 (x4 : Int), .int .i64 (x5 : Int), .int .i64 (x6 : Int), .int .i64 (x7 : Int), .int .i64 0, .int .i64 0]) := ht; clear hr hb ht))
  obtain ⟨U8, hU⟩ : ∃ U, U = u7.setCell ⟨w.heap.size + 1, 7, none⟩ (.int .i64 (x7 : Int)) := ⟨_, rfl⟩
  rw [← hU] at HT8 ⊢
  clear z7 f7 hU HT7 HC7 HN7
  go_upto_region 11 with (first | (go_at_call 57; refine (HC8.out _ HT8.out.ry).mono ?_; rintro x u8 ⟨rfl, hr, hb⟩; obtain ⟨⟨z8, f8⟩, ht⟩ := HT8.out.go 8 (.int .i64 (x8 : Int)) (.int .i64 0) rfl hb hr HN8.out; have HT9 : Hid (Tb w (u8.setCell ⟨w.heap.size + 1, 8, none⟩ (.int .i64 (x8 : Int))) r g gb q q9 [.int .i64 0, .int .i64 0, .int .i64 0, .int .i64 0, .int .i64 0, .int .i64 0, .int .i64 0, .int .i64 0, .int .i64 0, .int .i64 0] [.int .i64 (x0 : Int), .int .i64 (x1 : Int), .int .i64 (x2 : Int), .int .i64 (x3 : Int), .int .i64 (x4 : Int), .int .i64 (x5 : Int), .int .i64 (x6 : Int), .int .i64 (x7 : Int), .int .i64 (x8 : Int), .int .i64 0]) := ht; clear hr hb ht))
  obtain ⟨U9, hU⟩ : ∃ U, U = u8.setCell ⟨w.heap.size + 1, 8, none⟩ (.int .i64 (x8 : Int)) := ⟨_, rfl⟩
  rw [← hU] at HT9 ⊢
  clear z8 f8 hU HT8 HC8 HN8
  go_upto_region 12 with (first | (go_at_call 57; refine (HC9.out _ HT9.out.ry).mono ?_; rintro x u9 ⟨rfl, hr, hb⟩; obtain ⟨⟨z9, f9⟩, ht⟩ := HT9.out.go 9 (.int .i64 (x9 : Int)) (.int .i64 0) rfl hb hr HN9.out; have HT10 : Hid (Tb w (u9.setCell ⟨w.heap.size + 1, 9, none⟩ (.int .i64 (x9 : Int))) r g gb q q10 [.int .i64 0, .int .i64 0, .int .i64 0, .int .i64 0, .int .i64 0, .int .i64 0, .int .i64 0, .int .i64 0, .int .i64 0, .int .i64 0] [.int .i64 (x0 : Int), .int .i64 (x1 : Int), .int .i64 (x2 : Int), .int .i64 (x3 : Int), .int .i64 (x4 : Int), .int .i64 (x5 : Int), .int .i64 (x6 : Int), .int .i64 (x7 : Int), .int .i64 (x8 : Int), .int .i64 (x9 : Int)]) := ht; clear hr hb ht))
  obtain ⟨U10, hU⟩ : ∃ U, U = u9.setCell ⟨w.heap.size + 1, 9, none⟩ (.int .i64 (x9 : Int)) := ⟨_, rfl⟩
  rw [← hU] at HT10 ⊢
  clear z9 f9 hU HT9 HC9 HN9
  have hld : (Instr.loadAt 23 (.pointer (some ⟨w.heap.size + 1, 0, none⟩))).run Try.prog U10 = .ok (.agg #[.int .i64 (x0 : Int), .int .i64 (x1 : Int), .int .i64 (x2 : Int), .int .i64 (x3 : Int), .int .i64 (x4 : Int), .int .i64 (x5 : Int), .int .i64 (x6 : Int), .int .i64 (x7 : Int), .int .i64 (x8 : Int), .int .i64 (x9 : Int)]) U10 := ldF HT10.out.b1.range rfl
  have hst : (Instr.storeAt 23 (.pointer (some ⟨w.heap.size, 0, none⟩)) (.agg #[.int .i64 (x0 : Int), .int .i64 (x1 : Int), .int .i64 (x2 : Int), .int .i64 (x3 : Int), .int .i64 (x4 : Int), .int .i64 (x5 : Int), .int .i64 (x6 : Int), .int .i64 (x7 : Int), .int .i64 (x8 : Int), .int .i64 (x9 : Int)])).run Try.prog U10 = .ok () (U10.setCells w.heap.size 0 [.int .i64 (x0 : Int), .int .i64 (x1 : Int), .int .i64 (x2 : Int), .int .i64 (x3 : Int), .int .i64 (x4 : Int), .int .i64 (x5 : Int), .int .i64 (x6 : Int), .int .i64 (x7 : Int), .int .i64 (x8 : Int), .int .i64 (x9 : Int)]) := stF HT10.out.b0.there rfl (cf_one ⟨(x0 : Int), (x1 : Int), (x2 : Int), (x3 : Int), (x4 : Int), (x5 : Int), (x6 : Int), (x7 : Int), (x8 : Int), (x9 : Int)⟩)
  have hf := HT10.out.fin rfl
  have HLV : Hid ((loadVar 23 ⟨w.heap.size, 0, none⟩).run Try.prog (U10.setCells w.heap.size 0 [.int .i64 (x0 : Int), .int .i64 (x1 : Int), .int .i64 (x2 : Int), .int .i64 (x3 : Int), .int .i64 (x4 : Int), .int .i64 (x5 : Int), .int .i64 (x6 : Int), .int .i64 (x7 : Int), .int .i64 (x8 : Int), .int .i64 (x9 : Int)]) = .ok (.agg #[.int .i64 (x0 : Int), .int .i64 (x1 : Int), .int .i64 (x2 : Int), .int .i64 (x3 : Int), .int .i64 (x4 : Int), .int .i64 (x5 : Int), .int .i64 (x6 : Int), .int .i64 (x7 : Int), .int .i64 (x8 : Int), .int .i64 (x9 : Int)]) (U10.setCells w.heap.size 0 [.int .i64 (x0 : Int), .int .i64 (x1 : Int), .int .i64 (x2 : Int), .int .i64 (x3 : Int), .int .i64 (x4 : Int), .int .i64 (x5 : Int), .int .i64 (x6 : Int), .int .i64 (x7 : Int), .int .i64 (x8 : Int), .int .i64 (x9 : Int)])) := lvF hf.b0.range rfl
  have HF := hid hf
  have HLD := hid hld
  have HST := hid hst
  obtain ⟨UF, hUF⟩ : ∃ U, U = U10.setCells w.heap.size 0 [.int .i64 (x0 : Int), .int .i64 (x1 : Int), .int .i64 (x2 : Int), .int .i64 (x3 : Int), .int .i64 (x4 : Int), .int .i64 (x5 : Int), .int .i64 (x6 : Int), .int .i64 (x7 : Int), .int .i64 (x8 : Int), .int .i64 (x9 : Int)] := ⟨_, rfl⟩
  rw [← hUF] at HLV HF HST
  clear hld hst hf hUF
  go_wp2_with (first | ((with_reducible refine ld_arm HLD.out ?_ ?_); (· rfl)) | ((with_reducible refine st_arm HST.out ?_ ?_ ?_); (· rfl); (· rfl)))
  have hlv := HLV.out
  exact bodyPost_ret (v := .agg #[.int .i64 (x0 : Int), .int .i64 (x1 : Int), .int .i64 (x2 : Int), .int .i64 (x3 : Int), .int .i64 (x4 : Int), .int .i64 (x5 : Int), .int .i64 (x6 : Int), .int .i64 (x7 : Int), .int .i64 (x8 : Int), .int .i64 (x9 : Int)]) (by simp [results, Try.results31, asAddr, Act.put, hlv]) rfl ⟨rfl, HF.out.ry, HF.out.bt⟩
end Go.Proofs.Ythfmmfphnimlnaa
namespace Go.Proofs.Ythfmmfphnimlnaa
open Go.RowKit
set_option linter.unusedVariables false
set_option linter.unusedSimpArgs false
theorem Own.mono' {w : World} {base b2 : Nat} {a : Option Addr} {n c : Nat} {L : List Nat} (h : Own w base a n c L) (hb : b2 ≤ base) : Own w b2 a n c L := h.mono hb
theorem ObO.mono {w : World} {base b2 : Nat} {a : Option Addr} {n c : Nat} {Q : List (Ob × Sl)} (h : ObO w base a n c Q) (hb : b2 ≤ base) : ObO w b2 a n c Q := ⟨h.len, h.row.mono hb, fun p hp => (h.each p hp).mono hb⟩
theorem PrO.mono {w : World} {base b2 : Nat} {a : Option Addr} {n c : Nat} {Q : List (Pc × Sl)} (h : PrO w base a n c Q) (hb : b2 ≤ base) : PrO w b2 a n c Q := ⟨h.len, h.row.mono hb, fun p hp => ⟨(h.each p hp).1, (h.each p hp).2.mono hb⟩⟩
theorem TkO.but {S : Nat → Prop} {w w' : World} {base : Nat} {e : TypeId} {k : Nat} {a : Option Addr} {n c : Nat} {L : List Value} (h : Ow w base e k a n c L) (hb : But S w w') (hS : ∀ k, base ≤ k → k < w.heap.size → ¬ S k) : Ow w' base e k a n c L := h.but hb (fun j hj => hS j (h.blk j hj).1 (h.blk j hj).2)
def s1 (q : Qs) : Qs := nmS q 8 4611686018427387905
def s2 (q : Qs) : Qs := nmS (s1 q) 4 65536
def s3 (q : Qs) : Qs := nmS (s2 q) 2 65535
def sV (q : Qs) : St := ⟨obV (s3 q), tzV (obS2 (s3 q)), pzV (tzS (obS2 (s3 q))), (nmV q 8 4611686018427387905 : Int), (nmV (s1 q) 4 65536 : Int), (nmV (s2 q) 2 65535 : Int)⟩
def sS (q : Qs) : Qs := pzS (tzS (obS2 (s3 q)))
theorem ob_ne (q : Qs) (h : (obS2 q).1 ≠ []) : q.1 ≠ [] := drop_ne (n := intN q.1 2 64) (rdL_ne (f := rdO) (fun q h => drop_ne (n := intN q.1 8 MI) (drop_ne (n := intN (oq1 q).1 2 4096) (drop_ne (n := rowN (oq2 q).1 (onB q)) h))) _ _ h)
theorem tz_ne (q : Qs) (h : (tzS q).1 ≠ []) : q.1 ≠ [] := drop_ne (n := intN q.1 2 256) (rdL_ne (f := rdT) (fun q h => drop_ne (n := capN q.1) (drop_ne (n := intN (cpS q).1 1 255) (drop_ne (n := intN (nmS (cpS q) 1 255).1 2 65535) h))) _ _ h)
theorem pz_ne (q : Qs) (h : (pzS q).1 ≠ []) : q.1 ≠ [] := drop_ne (n := intN q.1 2 32) (rdL_ne (f := rdP) (fun q h => drop_ne (n := intN q.1 2 65535) (ls_ne _ h)) _ _ h)
theorem s_len (q : Qs) : (s3 q).1.length ≤ q.1.length := Nat.le_trans (nm_len _ _ _) (Nat.le_trans (nm_len _ _ _) (nm_len _ _ _))
set_option maxRecDepth 100000 in
set_option maxHeartbeats 4000000 in
theorem state_any (r g gb : Nat) (q : Qs) (w : World) (h : Ry w r g gb q) (hql : q.1.length ≤ 140737488355328) :
    Calls Try.prog 32 #[.pointer (some ⟨r, 0, none⟩)] w fun x w' => ∃ a b c Q R, x = .returned (stV a b c (sV q).nx (sV q).px (sV q).ta) ∧ a.n ≤ 64 ∧ b.n ≤ 256 ∧ c.n ≤ 32 ∧ Q.map Prod.fst = (sV q).O ∧ R.map Prod.fst = (sV q).P ∧ (sV q).T.length = b.n ∧ ObO w' w.heap.size a.a a.n a.c Q ∧ Ow w' w.heap.size 67 5 b.a b.n b.c ((sV q).T.map encT).flatten ∧ PrO w' w.heap.size c.a c.n c.c R ∧ Ry w' r g gb (sS q) ∧ But (RN r g) w w' := by
  obtain ⟨U0, hU0⟩ : ∃ U, U = (w.alloc (Obj.cells #[.slice none 0 0, .slice none 0 0, .slice none 0 0, .int .i64 0, .int .i64 0, .int .i64 0] 28)).alloc (Obj.cells #[.slice none 0 0, .slice none 0 0, .slice none 0 0, .int .i64 0, .int .i64 0, .int .i64 0] 28) := ⟨_, rfl⟩
  have HT0 : Hid (Tb w U0 r g gb q q [.slice none 0 0, .slice none 0 0, .slice none 0 0, .int .i64 0, .int .i64 0, .int .i64 0] [.slice none 0 0, .slice none 0 0, .slice none 0 0, .int .i64 0, .int .i64 0, .int .i64 0]) := by rw [hU0]; exact Tb.new h [.slice none 0 0, .slice none 0 0, .slice none 0 0, .int .i64 0, .int .i64 0, .int .i64 0] [.slice none 0 0, .slice none 0 0, .slice none 0 0, .int .i64 0, .int .i64 0, .int .i64 0] _
  have HU0 := hid hU0
  clear hU0 h
  unfold sV sS
  simp only
  have HC0 : Hid (∀ U, Ry U r g gb q → Calls Try.prog 58 #[.pointer (some ⟨r, 0, none⟩), .int .i64 8, .int .i64 4611686018427387905] U fun x w' => x = .returned (.int .i64 (nmV q 8 4611686018427387905 : Int)) ∧ Ry w' r g gb (s1 q) ∧ But (RN r g) U w') := fun U hU => number_any r g gb q 8 4611686018427387905 U hU (by omega)
  have HC1 : Hid (∀ U, Ry U r g gb (s1 q) → Calls Try.prog 58 #[.pointer (some ⟨r, 0, none⟩), .int .i64 4, .int .i64 65536] U fun x w' => x = .returned (.int .i64 (nmV (s1 q) 4 65536 : Int)) ∧ Ry w' r g gb (s2 q) ∧ But (RN r g) U w') := fun U hU => number_any r g gb (s1 q) 4 65536 U hU (by omega)
  have HC2 : Hid (∀ U, Ry U r g gb (s2 q) → Calls Try.prog 57 #[.pointer (some ⟨r, 0, none⟩)] U fun x w' => x = .returned (.int .i64 (nmV (s2 q) 2 65535 : Int)) ∧ Ry w' r g gb (s3 q) ∧ But (RN r g) U w') := fun U hU => two_any r g gb (s2 q) U hU
  have HN0 : Hid ((s1 q).1 ≠ [] → q.1 ≠ []) := fun hx => drop_ne (n := intN q.1 8 4611686018427387905) hx
  have HN1 : Hid ((s2 q).1 ≠ [] → (s1 q).1 ≠ []) := fun hx => drop_ne (n := intN (s1 q).1 4 65536) hx
  have HN2 : Hid ((s3 q).1 ≠ [] → (s2 q).1 ≠ []) := fun hx => drop_ne (n := intN (s2 q).1 2 65535) hx
  have HLn : Hid ((s3 q).1.length ≤ 140737488355328) := Nat.le_trans (s_len q) hql
  have HC3 : Hid (∀ U, Ry U r g gb (s3 q) → _) := fun U hU => objr_any r g gb (s3 q) U hU HLn.out
  have HC4 : Hid (∀ U, Ry U r g gb (obS2 (s3 q)) → _) := fun U hU => tokr_any r g gb (obS2 (s3 q)) U hU
  have HC5 : Hid (∀ U, Ry U r g gb (tzS (obS2 (s3 q))) → _) := fun U hU => procr_any r g gb (tzS (obS2 (s3 q))) U hU
  have HN3 : Hid ((obS2 (s3 q)).1 ≠ [] → (s3 q).1 ≠ []) := ob_ne _
  have HN4 : Hid ((tzS (obS2 (s3 q))).1 ≠ [] → (obS2 (s3 q)).1 ≠ []) := tz_ne _
  have HN5 : Hid ((pzS (tzS (obS2 (s3 q)))).1 ≠ [] → (tzS (obS2 (s3 q))).1 ≠ []) := pz_ne _
  clear hql HLn
  generalize nmV q 8 4611686018427387905 = x0 at HC0 ⊢
  generalize nmV (s1 q) 4 65536 = x1 at HC1 ⊢
  generalize nmV (s2 q) 2 65535 = x2 at HC2 ⊢
  generalize pzV (tzS (obS2 (s3 q))) = PP at HC5 ⊢
  generalize pzS (tzS (obS2 (s3 q))) = q6 at HC5 HN5 ⊢
  generalize tzV (obS2 (s3 q)) = TT at HC4 ⊢
  generalize tzS (obS2 (s3 q)) = q5 at HC4 HC5 HN4 HN5 ⊢
  generalize obV (s3 q) = OO at HC3 ⊢
  generalize obS2 (s3 q) = q4 at HC3 HC4 HN3 HN4 ⊢
  generalize s3 q = q3 at HC2 HC3 HN2 HN3
  generalize s2 q = q2 at HC1 HC2 HN1 HN2
  generalize s1 q = q1 at HC0 HC1 HN0 HN1
  go_enter Try.func32, Try.ntmps32
  go_upto_region 2 with fail
  rw [← HU0.out]
  go_upto_region 3 with (first | (go_at_call 58; refine (HC0.out _ HT0.out.ry).mono ?_; rintro x u0 ⟨rfl, hr, hb⟩; obtain ⟨⟨z0, f0⟩, ht⟩ := HT0.out.go 3 (.int .i64 (x0 : Int)) (.int .i64 0) rfl hb hr HN0.out; have HT1 : Hid (Tb w (u0.setCell ⟨w.heap.size + 1, 3, none⟩ (.int .i64 (x0 : Int))) r g gb q q1 [.slice none 0 0, .slice none 0 0, .slice none 0 0, .int .i64 0, .int .i64 0, .int .i64 0] [.slice none 0 0, .slice none 0 0, .slice none 0 0, .int .i64 (x0 : Int), .int .i64 0, .int .i64 0]) := ht; clear hr hb ht))
  obtain ⟨U1, hU⟩ : ∃ U, U = u0.setCell ⟨w.heap.size + 1, 3, none⟩ (.int .i64 (x0 : Int)) := ⟨_, rfl⟩
  have HBt : Hid (But (· = w.heap.size + 1) u0 U1) := by rw [hU]; exact (But.refl (· = w.heap.size + 1) _).setCell (p := ⟨w.heap.size + 1, 3, none⟩) rfl _
  rw [← hU] at HT1 ⊢
  clear z0 f0 hU HBt HT0 HC0 HN0
  go_upto_region 4 with (first | (go_at_call 58; refine (HC1.out _ HT1.out.ry).mono ?_; rintro x u1 ⟨rfl, hr, hb⟩; obtain ⟨⟨z1, f1⟩, ht⟩ := HT1.out.go 4 (.int .i64 (x1 : Int)) (.int .i64 0) rfl hb hr HN1.out; have HT2 : Hid (Tb w (u1.setCell ⟨w.heap.size + 1, 4, none⟩ (.int .i64 (x1 : Int))) r g gb q q2 [.slice none 0 0, .slice none 0 0, .slice none 0 0, .int .i64 0, .int .i64 0, .int .i64 0] [.slice none 0 0, .slice none 0 0, .slice none 0 0, .int .i64 (x0 : Int), .int .i64 (x1 : Int), .int .i64 0]) := ht; clear hr hb ht))
  obtain ⟨U2, hU⟩ : ∃ U, U = u1.setCell ⟨w.heap.size + 1, 4, none⟩ (.int .i64 (x1 : Int)) := ⟨_, rfl⟩
  have HBt : Hid (But (· = w.heap.size + 1) u1 U2) := by rw [hU]; exact (But.refl (· = w.heap.size + 1) _).setCell (p := ⟨w.heap.size + 1, 4, none⟩) rfl _
  rw [← hU] at HT2 ⊢
  clear z1 f1 hU HBt HT1 HC1 HN1
  go_upto_region 5 with (first | (go_at_call 57; refine (HC2.out _ HT2.out.ry).mono ?_; rintro x u2 ⟨rfl, hr, hb⟩; obtain ⟨⟨z2, f2⟩, ht⟩ := HT2.out.go 5 (.int .i64 (x2 : Int)) (.int .i64 0) rfl hb hr HN2.out; have HT3 : Hid (Tb w (u2.setCell ⟨w.heap.size + 1, 5, none⟩ (.int .i64 (x2 : Int))) r g gb q q3 [.slice none 0 0, .slice none 0 0, .slice none 0 0, .int .i64 0, .int .i64 0, .int .i64 0] [.slice none 0 0, .slice none 0 0, .slice none 0 0, .int .i64 (x0 : Int), .int .i64 (x1 : Int), .int .i64 (x2 : Int)]) := ht; clear hr hb ht))
  obtain ⟨U3, hU⟩ : ∃ U, U = u2.setCell ⟨w.heap.size + 1, 5, none⟩ (.int .i64 (x2 : Int)) := ⟨_, rfl⟩
  have HBt : Hid (But (· = w.heap.size + 1) u2 U3) := by rw [hU]; exact (But.refl (· = w.heap.size + 1) _).setCell (p := ⟨w.heap.size + 1, 5, none⟩) rfl _
  rw [← hU] at HT3 ⊢
  clear z2 f2 hU HBt HT2 HC2 HN2
  go_upto_region 6 with (first | (go_at_call 59; refine (HC3.out _ HT3.out.ry).mono ?_; rintro x u3 ⟨a3, n3, c3, Q, rfl, hn3, he3, ho3, hr, hb⟩; have HA := hid (And.intro hn3 he3); have HO3 := hid (ho3.mono HT3.out.sz); clear hn3 he3 ho3; obtain ⟨⟨z3, f3⟩, ht⟩ := HT3.out.go 0 (.slice a3 n3 c3) (.slice none 0 0) rfl hb hr HN3.out; have HT4 : Hid (Tb w (u3.setCell ⟨w.heap.size + 1, 0, none⟩ (.slice a3 n3 c3)) r g gb q q4 [.slice none 0 0, .slice none 0 0, .slice none 0 0, .int .i64 0, .int .i64 0, .int .i64 0] [.slice a3 n3 c3, .slice none 0 0, .slice none 0 0, .int .i64 (x0 : Int), .int .i64 (x1 : Int), .int .i64 (x2 : Int)]) := ht; clear hr hb ht))
  obtain ⟨U4, hU⟩ : ∃ U, U = u3.setCell ⟨w.heap.size + 1, 0, none⟩ (.slice a3 n3 c3) := ⟨_, rfl⟩
  have HBt : Hid (But (· = w.heap.size + 1) u3 U4) := by rw [hU]; exact (But.refl (· = w.heap.size + 1) _).setCell (p := ⟨w.heap.size + 1, 0, none⟩) rfl _
  rw [← hU] at HT4 ⊢
  have HO3 := hid (HO3.out.but HBt.out (fun k hk _ hk2 => by omega))
  clear z3 f3 hU HBt HT3 HC3 HN3
  go_upto_region 7 with (first | (go_at_call 60; refine (HC4.out _ HT4.out.ry).mono ?_; rintro x u4 ⟨a4, n4, c4, rfl, hn4, hl4, ho4, hr, hb⟩; have HA4 := hid (And.intro hn4 hl4); have HO4 := hid (ho4.mono HT4.out.sz); have HO3u := hid (HO3.out.but hb (fun k hk _ hk2 => by have := HT4.out.sr; have := HT4.out.sg; rcases hk2 with hk2 | hk2 <;> omega)); clear hn4 hl4 ho4; obtain ⟨⟨z4, f4⟩, ht⟩ := HT4.out.go 1 (.slice a4 n4 c4) (.slice none 0 0) rfl hb hr HN4.out; have HT5 : Hid (Tb w (u4.setCell ⟨w.heap.size + 1, 1, none⟩ (.slice a4 n4 c4)) r g gb q q5 [.slice none 0 0, .slice none 0 0, .slice none 0 0, .int .i64 0, .int .i64 0, .int .i64 0] [.slice a3 n3 c3, .slice a4 n4 c4, .slice none 0 0, .int .i64 (x0 : Int), .int .i64 (x1 : Int), .int .i64 (x2 : Int)]) := ht; clear hr hb ht))
  obtain ⟨U5, hU⟩ : ∃ U, U = u4.setCell ⟨w.heap.size + 1, 1, none⟩ (.slice a4 n4 c4) := ⟨_, rfl⟩
  have HBt : Hid (But (· = w.heap.size + 1) u4 U5) := by rw [hU]; exact (But.refl (· = w.heap.size + 1) _).setCell (p := ⟨w.heap.size + 1, 1, none⟩) rfl _
  rw [← hU] at HT5 ⊢
  have HO3 := hid (HO3u.out.but HBt.out (fun k hk _ hk2 => by omega))
  have HO4 := hid (TkO.but HO4.out HBt.out (fun k hk _ hk2 => by omega))
  clear z4 f4 hU HBt HT4 HC4 HN4
  clear HO3u
  go_upto_region 8 with (first | (go_at_call 61; refine (HC5.out _ HT5.out.ry).mono ?_; rintro x u5 ⟨a5, n5, c5, R, rfl, hn5, he5, ho5, hr, hb⟩; have HA5 := hid (And.intro hn5 he5); have HO5 := hid (ho5.mono HT5.out.sz); have HO4u := hid (TkO.but HO4.out hb (fun k hk _ hk2 => by have := HT5.out.sr; have := HT5.out.sg; rcases hk2 with hk2 | hk2 <;> omega)); have HO3u := hid (HO3.out.but hb (fun k hk _ hk2 => by have := HT5.out.sr; have := HT5.out.sg; rcases hk2 with hk2 | hk2 <;> omega)); clear hn5 he5 ho5; obtain ⟨⟨z5, f5⟩, ht⟩ := HT5.out.go 2 (.slice a5 n5 c5) (.slice none 0 0) rfl hb hr HN5.out; have HT6 : Hid (Tb w (u5.setCell ⟨w.heap.size + 1, 2, none⟩ (.slice a5 n5 c5)) r g gb q q6 [.slice none 0 0, .slice none 0 0, .slice none 0 0, .int .i64 0, .int .i64 0, .int .i64 0] [.slice a3 n3 c3, .slice a4 n4 c4, .slice a5 n5 c5, .int .i64 (x0 : Int), .int .i64 (x1 : Int), .int .i64 (x2 : Int)]) := ht; clear hr hb ht))
  obtain ⟨U6, hU⟩ : ∃ U, U = u5.setCell ⟨w.heap.size + 1, 2, none⟩ (.slice a5 n5 c5) := ⟨_, rfl⟩
  have HBt : Hid (But (· = w.heap.size + 1) u5 U6) := by rw [hU]; exact (But.refl (· = w.heap.size + 1) _).setCell (p := ⟨w.heap.size + 1, 2, none⟩) rfl _
  rw [← hU] at HT6 ⊢
  have HO3 := hid (HO3u.out.but HBt.out (fun k hk _ hk2 => by omega))
  have HO4 := hid (TkO.but HO4u.out HBt.out (fun k hk _ hk2 => by omega))
  have HO5 := hid (HO5.out.but HBt.out (fun k hk _ hk2 => by omega))
  clear z5 f5 hU HBt HT5 HC5 HN5
  have hld : (Instr.loadAt 28 (.pointer (some ⟨w.heap.size + 1, 0, none⟩))).run Try.prog U6 = .ok (.agg #[.slice a3 n3 c3, .slice a4 n4 c4, .slice a5 n5 c5, .int .i64 (x0 : Int), .int .i64 (x1 : Int), .int .i64 (x2 : Int)]) U6 := ldS HT6.out.b1.range rfl
  have hst : (Instr.storeAt 28 (.pointer (some ⟨w.heap.size, 0, none⟩)) (.agg #[.slice a3 n3 c3, .slice a4 n4 c4, .slice a5 n5 c5, .int .i64 (x0 : Int), .int .i64 (x1 : Int), .int .i64 (x2 : Int)])).run Try.prog U6 = .ok () (U6.setCells w.heap.size 0 [.slice a3 n3 c3, .slice a4 n4 c4, .slice a5 n5 c5, .int .i64 (x0 : Int), .int .i64 (x1 : Int), .int .i64 (x2 : Int)]) := stS HT6.out.b0.there rfl (st_one ⟨a3, n3, c3⟩ ⟨a4, n4, c4⟩ ⟨a5, n5, c5⟩ x0 x1 x2)
  have hf := HT6.out.fin rfl
  have HLV : Hid ((loadVar 28 ⟨w.heap.size, 0, none⟩).run Try.prog (U6.setCells w.heap.size 0 [.slice a3 n3 c3, .slice a4 n4 c4, .slice a5 n5 c5, .int .i64 (x0 : Int), .int .i64 (x1 : Int), .int .i64 (x2 : Int)]) = .ok (.agg #[.slice a3 n3 c3, .slice a4 n4 c4, .slice a5 n5 c5, .int .i64 (x0 : Int), .int .i64 (x1 : Int), .int .i64 (x2 : Int)]) (U6.setCells w.heap.size 0 [.slice a3 n3 c3, .slice a4 n4 c4, .slice a5 n5 c5, .int .i64 (x0 : Int), .int .i64 (x1 : Int), .int .i64 (x2 : Int)])) := lvS hf.b0.range rfl
  have HF := hid hf
  have HLD := hid hld
  have HST := hid hst
  obtain ⟨UF, hUF⟩ : ∃ U, U = U6.setCells w.heap.size 0 [.slice a3 n3 c3, .slice a4 n4 c4, .slice a5 n5 c5, .int .i64 (x0 : Int), .int .i64 (x1 : Int), .int .i64 (x2 : Int)] := ⟨_, rfl⟩
  have HBf : Hid (But (· = w.heap.size) U6 UF) := by rw [hUF]; exact setCells_but (S := (· = w.heap.size)) rfl _ 0 (But.refl _ _)
  rw [← hUF] at HLV HF HST
  clear hld hst hf hUF
  have HO3 := hid (HO3.out.but HBf.out (fun k hk _ hk2 => by omega))
  have HO4 := hid (TkO.but HO4.out HBf.out (fun k hk _ hk2 => by omega))
  have HO5 := hid (HO5.out.but HBf.out (fun k hk _ hk2 => by omega))
  go_wp2_with (first | ((with_reducible refine ld_arm HLD.out ?_ ?_); (· rfl)) | ((with_reducible refine st_arm HST.out ?_ ?_ ?_); (· rfl); (· rfl)))
  have hlv := HLV.out
  exact bodyPost_ret (v := .agg #[.slice a3 n3 c3, .slice a4 n4 c4, .slice a5 n5 c5, .int .i64 (x0 : Int), .int .i64 (x1 : Int), .int .i64 (x2 : Int)]) (by simp [results, Try.results32, asAddr, Act.put, hlv]) rfl ⟨⟨a3, n3, c3⟩, ⟨a4, n4, c4⟩, ⟨a5, n5, c5⟩, Q, R, rfl, HA.out.1, HA4.out.1, HA5.out.1, HA.out.2, HA5.out.2, HA4.out.2, HO3.out.mono (by omega), HO4.out.mono (by omega), HO5.out.mono (by omega), HF.out.ry, HF.out.bt⟩
end Go.Proofs.Ythfmmfphnimlnaa
