import Derived.Test.YtaffgoacbiedlaaWA
import Derived.Test.YtaffgoacbiedlaaWB
import Derived.Test.YtaffgoacbiedlaaWC
import Derived.Test.YtaffgoacbiedlaaWD
import Derived.Test.YtaffgoacbiedlaaQ1
namespace Go.Proofs.Ytaffgoacbiedlaa
open Go.RowKit
set_option linter.unusedVariables false
set_option linter.unusedSimpArgs false

theorem sv_gtr {R : List Nat} (hs : ∀ x ∈ R, x < 256) (p n : Nat) (hn : n ≤ 4) : sv (gt R p n) = (gt R p n : Int) := by
  have h1 := gt_lt hs p n
  have h2 : 256 ^ n ≤ 256 ^ 4 := Nat.pow_le_pow_right (by decide) hn
  exact sv_small (by omega)
theorem rpa_some' (op : Int) (a : Option Addr) (len cap : Nat) (R : List Nat) (w : World) (h : Row w a len cap R) (hl : len ≤ 140737488355328) (hf : rfm op (gr op R) = true) (hy : rly op (gr op R) = R) : Calls Try.prog 22 #[.int .i64 op, .slice a len cap] w fun e w' => ∃ L, e = .returned (.tuple #[.agg L.toArray, .int .i64 0]) ∧ Rr w' L (gr op R) ∧ Below w.heap.size w w' := by
  have hs := h.small
  by_cases hc : gt R 0 2 = 0
  · have h0 : sv (gt R 0 2) = 0 := by rw [hc]; rfl
    by_cases o1 : op = 1
    · subst o1; exact pa1_some a len cap R w h hl (sv (gt R 2 8)) h0 hc rfl hf hy
    by_cases o3 : op = 3
    · subst o3; exact pa3_some a len cap R w h hl (sv (gt R 2 8)) h0 hc rfl hf hy
    by_cases o5 : op = 5
    · subst o5
      by_cases hn : len ≤ 2
      · exact pa5s_some a len cap R w h hl h0 hc hn hf hy
      · exact pa5l_some a len cap R w h hl h0 hc (by omega) hf hy
    by_cases o9 : op = 9
    · subst o9; exact pa9_some a len cap R w h hl (gt R 2 2) h0 hc (sv_gtr hs 2 2 (by omega)) rfl hf hy
    exact pax_some a len cap R w h hl op h0 hc (by simpa using o1) (by simpa using o3) (by simpa using o5) (by simpa using o9) hf hy
  · exact paN_some a len cap R w h hl op (gt R 0 2) (sv_gtr hs 0 2 (by omega)) hc rfl hf hy
theorem rpa_bad' (op : Int) (a : Option Addr) (len cap : Nat) (R : List Nat) (w : World) (h : Row w a len cap R) (hl : len ≤ 140737488355328) (hf : rfm op (gr op R) = false) : Calls Try.prog 22 #[.int .i64 op, .slice a len cap] w fun e w' => e = .returned (.tuple #[.agg z30.toArray, .int .i64 1]) ∧ Below w.heap.size w w' := by
  have hs := h.small
  by_cases hc : gt R 0 2 = 0
  · have h0 : sv (gt R 0 2) = 0 := by rw [hc]; rfl
    by_cases o1 : op = 1
    · subst o1; exact pa1_bad a len cap R w h hl (sv (gt R 2 8)) h0 hc rfl hf
    by_cases o3 : op = 3
    · subst o3; exact pa3_bad a len cap R w h hl (sv (gt R 2 8)) h0 hc rfl hf
    by_cases o5 : op = 5
    · subst o5
      by_cases hn : len ≤ 2
      · exact pa5s_bad a len cap R w h hl h0 hc hn hf
      · exact pa5l_bad a len cap R w h hl h0 hc (by omega) hf
    by_cases o9 : op = 9
    · subst o9; exact pa9_bad a len cap R w h hl (gt R 2 2) h0 hc (sv_gtr hs 2 2 (by omega)) rfl hf
    exact pax_bad a len cap R w h hl op h0 hc (by simpa using o1) (by simpa using o3) (by simpa using o5) (by simpa using o9) hf
  · exact paN_bad a len cap R w h hl op (gt R 0 2) (sv_gtr hs 0 2 (by omega)) hc rfl hf
theorem rpa_other' (op : Int) (a : Option Addr) (len cap : Nat) (R : List Nat) (w : World) (h : Row w a len cap R) (hl : len ≤ 140737488355328) (hf : rfm op (gr op R) = true) (hy : ¬ rly op (gr op R) = R) : Calls Try.prog 22 #[.int .i64 op, .slice a len cap] w fun e w' => e = .returned (.tuple #[.agg z30.toArray, .int .i64 1]) ∧ Below w.heap.size w w' := by
  have hs := h.small
  by_cases hc : gt R 0 2 = 0
  · have h0 : sv (gt R 0 2) = 0 := by rw [hc]; rfl
    by_cases o1 : op = 1
    · subst o1; exact pa1_other a len cap R w h hl (sv (gt R 2 8)) h0 hc rfl hf hy
    by_cases o3 : op = 3
    · subst o3; exact pa3_other a len cap R w h hl (sv (gt R 2 8)) h0 hc rfl hf hy
    by_cases o5 : op = 5
    · subst o5
      by_cases hn : len ≤ 2
      · exact pa5s_other a len cap R w h hl h0 hc hn hf hy
      · exact pa5l_other a len cap R w h hl h0 hc (by omega) hf hy
    by_cases o9 : op = 9
    · subst o9; exact pa9_other a len cap R w h hl (gt R 2 2) h0 hc (sv_gtr hs 2 2 (by omega)) rfl hf hy
    exact pax_other a len cap R w h hl op h0 hc (by simpa using o1) (by simpa using o3) (by simpa using o5) (by simpa using o9) hf hy
  · exact paN_other a len cap R w h hl op (gt R 0 2) (sv_gtr hs 0 2 (by omega)) hc rfl hf hy
theorem rpa_some (op : Int) (a : Option Addr) (len cap : Nat) (R : List Nat) (w : World) (h : Row w a len cap R) (hl : len ≤ 140737488355328) {c : Rp} (hr : psR op R = some c) : Calls Try.prog 22 #[.int .i64 op, .slice a len cap] w fun e w' => ∃ L, e = .returned (.tuple #[.agg L.toArray, .int .i64 0]) ∧ Rr w' L c ∧ Below w.heap.size w w' := by
  have hg := gr_ps (op := op) h.small
  rw [hr] at hg
  split at hg
  · rename_i hc
    obtain rfl := Option.some.inj hg
    exact rpa_some' op a len cap R w h hl hc.1 hc.2
  · cases hg
theorem rpa_none (op : Int) (a : Option Addr) (len cap : Nat) (R : List Nat) (w : World) (h : Row w a len cap R) (hl : len ≤ 140737488355328) (hr : psR op R = none) : Calls Try.prog 22 #[.int .i64 op, .slice a len cap] w fun e w' => e = .returned (.tuple #[.agg z30.toArray, .int .i64 1]) ∧ Below w.heap.size w w' := by
  have hg := gr_ps (op := op) h.small
  rw [hr] at hg
  split at hg
  · cases hg
  · rename_i hc
    cases hf : rfm op (gr op R) with
    | false => exact rpa_bad' op a len cap R w h hl hf
    | true => exact rpa_other' op a len cap R w h hl hf (fun e => hc ⟨hf, e⟩)
set_option maxRecDepth 100000 in
set_option maxHeartbeats 4000000 in
theorem sameR (L M : List Value) (r : Rp) (w : World) (h : Rr w L r) (h2 : Rr w M r) : Calls Try.prog 13 #[.agg L.toArray, .agg M.toArray] w fun e w' => e = .returned (.bool true) ∧ Below w.heap.size w w' := by
  obtain ⟨⟨da, dn, dc⟩, rfl, hd, _, _⟩ := h.ex
  obtain ⟨⟨ea, en, ec⟩, rfl, he, _, _⟩ := h2.ex
  obtain ⟨code, obj, hi, lo, D, number⟩ := r
  have q1 := eqlC obj hi lo obj hi lo
  have q2 : cEq obj hi lo obj hi lo = true := by unfold cEq; simp
  have cv1 : (convert 28 9 (.slice da dn dc)).run Try.prog ((w.alloc (Obj.cells #[.int .i64 code, .int .i64 obj, .int .u64 (hi : Int), .int .u64 (lo : Int), .slice da dn dc, .int .i64 number] 30)).alloc (Obj.cells #[.int .i64 code, .int .i64 obj, .int .u64 (hi : Int), .int .u64 (lo : Int), .slice ea en ec, .int .i64 number] 30)) = .ok (.string (strB D)) _ := (hd.later (below2 _ _ _)).conv
  have cv2 : (convert 28 9 (.slice ea en ec)).run Try.prog ((w.alloc (Obj.cells #[.int .i64 code, .int .i64 obj, .int .u64 (hi : Int), .int .u64 (lo : Int), .slice da dn dc, .int .i64 number] 30)).alloc (Obj.cells #[.int .i64 code, .int .i64 obj, .int .u64 (hi : Int), .int .u64 (lo : Int), .slice ea en ec, .int .i64 number] 30)) = .ok (.string (strB D)) _ := (he.later (below2 _ _ _)).conv
  clear hd he h h2
  simp only [rC, Sl.v]
  go_enter Try.func13, Try.ntmps13
  go_wp2
  go_ret
  exact ⟨rfl, below2 _ _ _⟩
theorem rz (w : World) : Rr w z30 (rpz 0) := ⟨Sl.nil, rfl, row_nil _, by simp [rpz], by simp [rpz]⟩
end Go.Proofs.Ytaffgoacbiedlaa
namespace Go.Proofs.Ytaffgoacbiedlaa
open Go.RowKit
set_option linter.unusedVariables false
set_option linter.unusedSimpArgs false

set_option maxRecDepth 100000 in
set_option maxHeartbeats 4000000 in
theorem answers_ts (op : Int) (K : List Value) (r : Rp) (a : Option Addr) (n cap : Nat) (R : List Nat) (w : World) (hk : Rr w K r) (h : Row w a n cap R) (hn : n ≤ 140737488355328) (hf : rfm op r = true) {c : Rp} (hp : psR op R = some c) :
    Calls Try.prog 7 #[.int .i64 op, .agg K.toArray, .slice a n cap] w fun e w' => e = .returned (.bool true) ∧ Below w.heap.size w w' := by
  obtain ⟨Z, hZl, hZo, hZz, hz⟩ := zero30
  have hZ0 : (Z.toArray = #[]) = False := by simp; intro h; rw [h] at hZl; simp at hZl
  have hkl := hk.len
  have X1 := Bx.new w K 30
  have HLD1 := hid (ld30 X1.range hkl)
  have HX1 := hid X1
  have HK1 : Hid (Rr (w.alloc (Obj.cells K.toArray 30)) K r) := hk.later (below1 _ _)
  have HR := hid h
  have HF := hid hf
  have HP := hid hp
  clear X1 hk h hf hp hZo hZz
  go_enter Try.func7, Try.ntmps7
  go_wp2_with (first | ((with_reducible refine ld_armg HLD5.out ?_ ?_ ?_); (· rfl); (· rfl)) | ((with_reducible refine ld_armg HLD4.out ?_ ?_ ?_); (· rfl); (· rfl)) | ((with_reducible refine ld_arm HLD2.out ?_ ?_); (· rfl)) | ((with_reducible refine ld_arm HLD1.out ?_ ?_); (· rfl)) | (go_at_call 10; refine (answer_ok op K r _ HK1.out HF.out).mono ?_; rintro e w2 ⟨a2, n2, c2, rfl, hown2, hb2⟩; have HO2 := hid hown2; have HLD2 := hid (ld30 (HX1.out.later hb2).range hkl); have HK2 := hid (HK1.out.later hb2); have HB2 := hid (below_call (below1 w _) hb2); clear hown2 hb2) | (go_at_call 21; refine (ranswer_ok op K r _ HK2.out HF.out).mono ?_; rintro e w3 ⟨a3, n3, c3, rfl, hown3, hb3⟩; have HO3 := hid (And.intro (HO2.out.later hb3) hown3); have HB3 := hid (below_call HB2.out hb3); clear hown3 hb3) | (go_at_call 22; refine (rpa_some op a n cap R _ (HR.out.later HB3.out) hn HP.out).mono ?_; rintro e w4 ⟨L, rfl, hc, hb4⟩; have hll := hc.len; obtain ⟨w5, hst5, hx5, hb5⟩ := store_new w4 (Z := Z) (t := 30) (hll.trans hZl.symm) hc.one; have HX5 := hid hx5; have HC5 := hid (hc.later hb5); have HB5 := hid (below_call (below_call HB3.out hb4) hb5); have HO5 := hid (And.intro ((HO3.out.1.later hb4).later hb5) ((HO3.out.2.later hb4).later hb5)); clear hc hb4 hb5 hx5) | (go_at_call 11; refine (panswer_some op a n cap R _ (HR.out.later HB5.out) hn HP.out).mono ?_; rintro e w6 ⟨M, rfl, hc6, hb6⟩; have hml := hc6.len; obtain ⟨w7, hst7, hx7, hb7⟩ := store_new w6 (Z := Z) (t := 30) (hml.trans hZl.symm) hc6.one; have HX7 := hid hx7; have HX57 := hid ((HX5.out.later hb6).later hb7); have HC7 := hid (And.intro (hc6.rr.later hb7) ((HC5.out.later hb6).later hb7)); have HB7 := hid (below_call (below_call HB5.out hb6) hb7); have HO7 := hid (And.intro ((HO5.out.1.later hb6).later hb7) ((HO5.out.2.later hb6).later hb7)); clear hc6 hb6 hb7 hx7) | (go_at_call 12; refine (known_any _).mono ?_; rintro e w8 ⟨rfl, hb8⟩; have cv1 := (HO7.out.1.later hb8).read.conv; have cv2 := (HO7.out.2.later hb8).read.conv; have HLD4 := hid (ld30 (HX7.out.later hb8).range hml); have HLD5 := hid (ld30 (HX57.out.later hb8).range hll); have HC8 := hid (And.intro (HC7.out.1.later hb8) (HC7.out.2.later hb8)); have HB8 := hid (below_call HB7.out hb8); clear hb8) | (go_at_call 13; refine (sameR M L c _ HC8.out.1 HC8.out.2).mono ?_; rintro e w9 ⟨rfl, hb9⟩; have HB9 := hid (below_call HB8.out hb9); clear hb9))
  go_ret
  exact ⟨rfl, HB9.out⟩
set_option maxRecDepth 100000 in
set_option maxHeartbeats 4000000 in
theorem answers_tn (op : Int) (K : List Value) (r : Rp) (a : Option Addr) (n cap : Nat) (R : List Nat) (w : World) (hk : Rr w K r) (h : Row w a n cap R) (hn : n ≤ 140737488355328) (hf : rfm op r = true) (hp : psR op R = none) :
    Calls Try.prog 7 #[.int .i64 op, .agg K.toArray, .slice a n cap] w fun e w' => e = .returned (.bool true) ∧ Below w.heap.size w w' := by
  obtain ⟨Z, hZl, hZo, hZz, hz⟩ := zero30
  have hZ0 : (Z.toArray = #[]) = False := by simp; intro h; rw [h] at hZl; simp at hZl
  have hkl := hk.len
  have X1 := Bx.new w K 30
  have HLD1 := hid (ld30 X1.range hkl)
  have HX1 := hid X1
  have HK1 : Hid (Rr (w.alloc (Obj.cells K.toArray 30)) K r) := hk.later (below1 _ _)
  have HR := hid h
  have HF := hid hf
  have HP := hid hp
  have hml : z30.length = 6 := rfl
  have HLO := hid (rz w).one
  generalize hzz : z30 = M at hml HLO
  have HZZ := hid hzz
  clear hzz
  clear X1 hk h hf hp hZo hZz
  go_enter Try.func7, Try.ntmps7
  go_wp2_with (first | ((with_reducible refine ld_armg HLD5.out ?_ ?_ ?_); (· rfl); (· rfl)) | ((with_reducible refine ld_armg HLD4.out ?_ ?_ ?_); (· rfl); (· rfl)) | ((with_reducible refine ld_arm HLD2.out ?_ ?_); (· rfl)) | ((with_reducible refine ld_arm HLD1.out ?_ ?_); (· rfl)) | (go_at_call 10; refine (answer_ok op K r _ HK1.out HF.out).mono ?_; rintro e w2 ⟨a2, n2, c2, rfl, hown2, hb2⟩; have HO2 := hid hown2; have HLD2 := hid (ld30 (HX1.out.later hb2).range hkl); have HK2 := hid (HK1.out.later hb2); have HB2 := hid (below_call (below1 w _) hb2); clear hown2 hb2) | (go_at_call 21; refine (ranswer_ok op K r _ HK2.out HF.out).mono ?_; rintro e w3 ⟨a3, n3, c3, rfl, hown3, hb3⟩; have HO3 := hid (And.intro (HO2.out.later hb3) hown3); have HB3 := hid (below_call HB2.out hb3); clear hown3 hb3) | (go_at_call 22; refine (rpa_none op a n cap R _ (HR.out.later HB3.out) hn HP.out).mono ?_; rintro e w4 ⟨rfl, hb4⟩; rw [HZZ.out]; obtain ⟨w5, hst5, hx5, hb5⟩ := store_new w4 (Z := Z) (t := 30) (hml.trans hZl.symm) HLO.out; have HX5 := hid hx5; have HB5 := hid (below_call (below_call HB3.out hb4) hb5); have HO5 := hid (And.intro ((HO3.out.1.later hb4).later hb5) ((HO3.out.2.later hb4).later hb5)); clear hb4 hb5 hx5) | (go_at_call 11; refine (panswer_none op a n cap R _ (HR.out.later HB5.out) hn HP.out).mono ?_; rintro e w6 ⟨rfl, hb6⟩; rw [HZZ.out]; obtain ⟨w7, hst7, hx7, hb7⟩ := store_new w6 (Z := Z) (t := 30) (hml.trans hZl.symm) HLO.out; have HX7 := hid hx7; have HX57 := hid ((HX5.out.later hb6).later hb7); have HB7 := hid (below_call (below_call HB5.out hb6) hb7); have HO7 := hid (And.intro ((HO5.out.1.later hb6).later hb7) ((HO5.out.2.later hb6).later hb7)); clear hb6 hb7 hx7) | (go_at_call 12; refine (known_any _).mono ?_; rintro e w8 ⟨rfl, hb8⟩; have cv1 := (HO7.out.1.later hb8).read.conv; have cv2 := (HO7.out.2.later hb8).read.conv; have HLD4 := hid (ld30 (HX7.out.later hb8).range hml); have HLD5 := hid (ld30 (HX57.out.later hb8).range hml); have HB8 := hid (below_call HB7.out hb8); clear hb8) | (go_at_call 13; refine (sameR M M (rpz 0) _ (by rw [← HZZ.out]; exact rz _) (by rw [← HZZ.out]; exact rz _)).mono ?_; rintro e w9 ⟨rfl, hb9⟩; have HB9 := hid (below_call HB8.out hb9); clear hb9))
  go_ret
  exact ⟨rfl, HB9.out⟩
set_option maxRecDepth 100000 in
set_option maxHeartbeats 4000000 in
theorem answers_fs (op : Int) (K : List Value) (r : Rp) (a : Option Addr) (n cap : Nat) (R : List Nat) (w : World) (hk : Rr w K r) (h : Row w a n cap R) (hn : n ≤ 140737488355328) (hf : rfm op r = false) {c : Rp} (hp : psR op R = some c) :
    Calls Try.prog 7 #[.int .i64 op, .agg K.toArray, .slice a n cap] w fun e w' => e = .returned (.bool true) ∧ Below w.heap.size w w' := by
  obtain ⟨Z, hZl, hZo, hZz, hz⟩ := zero30
  have hZ0 : (Z.toArray = #[]) = False := by simp; intro h; rw [h] at hZl; simp at hZl
  have hkl := hk.len
  have X1 := Bx.new w K 30
  have HLD1 := hid (ld30 X1.range hkl)
  have HX1 := hid X1
  have HK1 : Hid (Rr (w.alloc (Obj.cells K.toArray 30)) K r) := hk.later (below1 _ _)
  have HR := hid h
  have HF := hid hf
  have HP := hid hp
  clear X1 hk h hf hp hZo hZz
  go_enter Try.func7, Try.ntmps7
  go_wp2_with (first | ((with_reducible refine ld_armg HLD5.out ?_ ?_ ?_); (· rfl); (· rfl)) | ((with_reducible refine ld_armg HLD4.out ?_ ?_ ?_); (· rfl); (· rfl)) | ((with_reducible refine ld_arm HLD2.out ?_ ?_); (· rfl)) | ((with_reducible refine ld_arm HLD1.out ?_ ?_); (· rfl)) | (go_at_call 10; refine (answer_bad op K r _ HK1.out HF.out).mono ?_; rintro e w2 ⟨rfl, hb2⟩; have HLD2 := hid (ld30 (HX1.out.later hb2).range hkl); have HK2 := hid (HK1.out.later hb2); have HB2 := hid (below_call (below1 w _) hb2); clear hb2) | (go_at_call 21; refine (ranswer_bad op K r _ HK2.out HF.out).mono ?_; rintro e w3 ⟨rfl, hb3⟩; have HB3 := hid (below_call HB2.out hb3); clear hb3) | (go_at_call 22; refine (rpa_some op a n cap R _ (HR.out.later HB3.out) hn HP.out).mono ?_; rintro e w4 ⟨L, rfl, hc, hb4⟩; have hll := hc.len; obtain ⟨w5, hst5, hx5, hb5⟩ := store_new w4 (Z := Z) (t := 30) (hll.trans hZl.symm) hc.one; have HX5 := hid hx5; have HC5 := hid (hc.later hb5); have HB5 := hid (below_call (below_call HB3.out hb4) hb5); clear hc hb4 hb5 hx5) | (go_at_call 11; refine (panswer_some op a n cap R _ (HR.out.later HB5.out) hn HP.out).mono ?_; rintro e w6 ⟨M, rfl, hc6, hb6⟩; have hml := hc6.len; obtain ⟨w7, hst7, hx7, hb7⟩ := store_new w6 (Z := Z) (t := 30) (hml.trans hZl.symm) hc6.one; have HX7 := hid hx7; have HX57 := hid ((HX5.out.later hb6).later hb7); have HC7 := hid (And.intro (hc6.rr.later hb7) ((HC5.out.later hb6).later hb7)); have HB7 := hid (below_call (below_call HB5.out hb6) hb7); clear hc6 hb6 hb7 hx7) | (go_at_call 12; refine (known_any _).mono ?_; rintro e w8 ⟨rfl, hb8⟩; have cv1 := conv_none w8; have HLD4 := hid (ld30 (HX7.out.later hb8).range hml); have HLD5 := hid (ld30 (HX57.out.later hb8).range hll); have HC8 := hid (And.intro (HC7.out.1.later hb8) (HC7.out.2.later hb8)); have HB8 := hid (below_call HB7.out hb8); clear hb8) | (go_at_call 13; refine (sameR M L c _ HC8.out.1 HC8.out.2).mono ?_; rintro e w9 ⟨rfl, hb9⟩; have HB9 := hid (below_call HB8.out hb9); clear hb9))
  go_ret
  exact ⟨rfl, HB9.out⟩
set_option maxRecDepth 100000 in
set_option maxHeartbeats 4000000 in
theorem answers_fn (op : Int) (K : List Value) (r : Rp) (a : Option Addr) (n cap : Nat) (R : List Nat) (w : World) (hk : Rr w K r) (h : Row w a n cap R) (hn : n ≤ 140737488355328) (hf : rfm op r = false) (hp : psR op R = none) :
    Calls Try.prog 7 #[.int .i64 op, .agg K.toArray, .slice a n cap] w fun e w' => e = .returned (.bool true) ∧ Below w.heap.size w w' := by
  obtain ⟨Z, hZl, hZo, hZz, hz⟩ := zero30
  have hZ0 : (Z.toArray = #[]) = False := by simp; intro h; rw [h] at hZl; simp at hZl
  have hkl := hk.len
  have X1 := Bx.new w K 30
  have HLD1 := hid (ld30 X1.range hkl)
  have HX1 := hid X1
  have HK1 : Hid (Rr (w.alloc (Obj.cells K.toArray 30)) K r) := hk.later (below1 _ _)
  have HR := hid h
  have HF := hid hf
  have HP := hid hp
  have hml : z30.length = 6 := rfl
  have HLO := hid (rz w).one
  generalize hzz : z30 = M at hml HLO
  have HZZ := hid hzz
  clear hzz
  clear X1 hk h hf hp hZo hZz
  go_enter Try.func7, Try.ntmps7
  go_wp2_with (first | ((with_reducible refine ld_armg HLD5.out ?_ ?_ ?_); (· rfl); (· rfl)) | ((with_reducible refine ld_armg HLD4.out ?_ ?_ ?_); (· rfl); (· rfl)) | ((with_reducible refine ld_arm HLD2.out ?_ ?_); (· rfl)) | ((with_reducible refine ld_arm HLD1.out ?_ ?_); (· rfl)) | (go_at_call 10; refine (answer_bad op K r _ HK1.out HF.out).mono ?_; rintro e w2 ⟨rfl, hb2⟩; have HLD2 := hid (ld30 (HX1.out.later hb2).range hkl); have HK2 := hid (HK1.out.later hb2); have HB2 := hid (below_call (below1 w _) hb2); clear hb2) | (go_at_call 21; refine (ranswer_bad op K r _ HK2.out HF.out).mono ?_; rintro e w3 ⟨rfl, hb3⟩; have HB3 := hid (below_call HB2.out hb3); clear hb3) | (go_at_call 22; refine (rpa_none op a n cap R _ (HR.out.later HB3.out) hn HP.out).mono ?_; rintro e w4 ⟨rfl, hb4⟩; rw [HZZ.out]; obtain ⟨w5, hst5, hx5, hb5⟩ := store_new w4 (Z := Z) (t := 30) (hml.trans hZl.symm) HLO.out; have HX5 := hid hx5; have HB5 := hid (below_call (below_call HB3.out hb4) hb5); clear hb4 hb5 hx5) | (go_at_call 11; refine (panswer_none op a n cap R _ (HR.out.later HB5.out) hn HP.out).mono ?_; rintro e w6 ⟨rfl, hb6⟩; rw [HZZ.out]; obtain ⟨w7, hst7, hx7, hb7⟩ := store_new w6 (Z := Z) (t := 30) (hml.trans hZl.symm) HLO.out; have HX7 := hid hx7; have HX57 := hid ((HX5.out.later hb6).later hb7); have HB7 := hid (below_call (below_call HB5.out hb6) hb7); clear hb6 hb7 hx7) | (go_at_call 12; refine (known_any _).mono ?_; rintro e w8 ⟨rfl, hb8⟩; have cv1 := conv_none w8; have HLD4 := hid (ld30 (HX7.out.later hb8).range hml); have HLD5 := hid (ld30 (HX57.out.later hb8).range hml); have HB8 := hid (below_call HB7.out hb8); clear hb8) | (go_at_call 13; refine (sameR M M (rpz 0) _ (by rw [← HZZ.out]; exact rz _) (by rw [← HZZ.out]; exact rz _)).mono ?_; rintro e w9 ⟨rfl, hb9⟩; have HB9 := hid (below_call HB8.out hb9); clear hb9))
  go_ret
  exact ⟨rfl, HB9.out⟩
theorem answers_law (op : Int) (K : List Value) (r : Rp) (a : Option Addr) (n cap : Nat) (R : List Nat) (w : World) (hk : Rr w K r) (h : Row w a n cap R) (hn : n ≤ 140737488355328) :
    Calls Try.prog 7 #[.int .i64 op, .agg K.toArray, .slice a n cap] w fun e w' => e = .returned (.bool true) ∧ Below w.heap.size w w' := by
  cases hf : rfm op r with
  | true => cases hp : psR op R with
    | some c => exact answers_ts op K r a n cap R w hk h hn hf hp
    | none => exact answers_tn op K r a n cap R w hk h hn hf hp
  | false => cases hp : psR op R with
    | some c => exact answers_fs op K r a n cap R w hk h hn hf hp
    | none => exact answers_fn op K r a n cap R w hk h hn hf hp
end Go.Proofs.Ytaffgoacbiedlaa
