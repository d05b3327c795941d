import Derived.Test.YtlkjieophdabpaaH1
namespace Go.Proofs.Ytlkjieophdabpaa
open Go.RowKit
set_option linter.unusedVariables false
variable {w w' : World} {base g : Nat} {m x : Int} {pa : Option Addr} {cap : Nat} {L : List Int}

theorem own_one (w : World) (x : Int) : Own (w.alloc (Obj.cells #[.int .i64 x] 3)) w.heap.size 3 (some ⟨w.heap.size, 0, .none⟩) 1 1 (ints [x]) :=
  ⟨⟨rfl, .inr ⟨w.heap.size, 1, _, rfl, Nat.le_refl _, heap_alloc_new w _, Nat.le_refl _, by unfold maxLen; omega, rfl, rfl⟩⟩, ints_one _⟩
set_option maxRecDepth 100000 in
set_option maxHeartbeats 1000000 in
theorem rnew_ok (m : Int) (w : World) (h1 : 1 ≤ m) (h2 : m ≤ 32) :
    Calls Try.prog 17 #[.int .i64 m] w fun e w' => ∃ g pa cap, e = .returned (.tuple #[.pointer (some ⟨g, 0, none⟩), .int .i64 0]) ∧ Ob w' w.heap.size g m 1 pa cap [0] ∧ Below w.heap.size w w' := by
  have hd1 : decide (m < 1) = false := decide_eq_false (by omega)
  have hd2 : decide (m > 32) = false := decide_eq_false (by omega)
  clear h1 h2
  go_enter Try.func17, Try.ntmps17
  go_wp2
  have hB := below2 w (Obj.cells #[.int .i64 0] 3) (.cells #[.int .i64 m, .int .i64 1, .slice (some ⟨w.heap.size, 0, none⟩) 1 1] 58)
  exact bodyPost_ret (v := .tuple #[.pointer (some ⟨w.heap.size + 1, 0, none⟩), .int .i64 0]) (by simp [results, Try.results17, go_sem]) rfl ⟨w.heap.size + 1, some ⟨w.heap.size, 0, none⟩, 1, rfl, ⟨by simp [go_sem], ⟨by simp [go_sem], by simp [go_sem]⟩, ⟨by simp [go_sem], by simp [go_sem]⟩, (own_one w 0).alloc _, fun k hk => (by obtain ⟨_, e, e2⟩ := hk; cases e; simp only at e2; omega), by omega⟩, hB⟩
set_option maxRecDepth 100000 in
theorem rnew_bad (m : Int) (w : World) (h : m < 1 ∨ 32 < m) :
    Calls Try.prog 17 #[.int .i64 m] w fun e w' => e = .returned (.tuple #[.pointer none, .int .i64 16]) ∧ w' = w := by
  by_cases h1 : m < 1
  · have hd1 : decide (m < 1) = true := decide_eq_true h1
    go_enter Try.func17, Try.ntmps17
    go_wp2
    exact bodyPost_ret (v := .tuple #[.pointer none, .int .i64 16]) (by simp [results, Try.results17, go_sem]) rfl ⟨rfl, rfl⟩
  · have hd1 : decide (m < 1) = false := decide_eq_false h1
    have hd2 : decide (m > 32) = true := decide_eq_true (by omega)
    go_enter Try.func17, Try.ntmps17
    go_wp2
    exact bodyPost_ret (v := .tuple #[.pointer none, .int .i64 16]) (by simp [results, Try.results17, go_sem]) rfl ⟨rfl, rfl⟩
def IsRel (w : World) (L : List Int) (n : Int) (t : Value) (w' : World) : Prop := ∃ i : Nat, i ≤ L.length ∧ n ∉ L.take i ∧ t = .int .i64 (i : Int) ∧ w = w'
set_option maxRecDepth 100000 in
set_option maxHeartbeats 1000000 in
theorem is_any (h : Ob w base g m x pa cap L) (hl : L.length ≤ 4096) (n : Int) :
    Calls Try.prog 30 #[.pointer (some ⟨g, 0, none⟩), .int .i64 n] w fun e w' => e = .returned (.bool (L.contains n)) ∧ w' = w := by
  have HO := hid h.own
  have c2 := h.c2.1
  clear h
  obtain ⟨bb, hbb⟩ : ∃ bb, bb = L.contains n := ⟨_, rfl⟩
  rw [← hbb]
  have HBB := hid hbb
  clear hbb
  go_enter Try.func30, Try.ntmps30
  go_wp2
  go_loopw [5] (IsRel w L n) (fun t _ => L.length - (intOf t).toNat)
  case atStart => exact ⟨0, Nat.zero_le _, by simp, rfl, rfl⟩
  case round =>
    obtain ⟨i, hi, hn, rfl, rfl⟩ := hrel
    by_cases hlt : i < L.length
    · have hd : decide ((i : Int) < (L.length : Int)) = true := decide_eq_true (by omega)
      obtain ⟨lb, lo, rfl, h1⟩ := HO.out.read.plain (by omega)
      have y1 := h1 i _ (ints_get _ i hlt)
      have htk := take_step L i hlt
      have hmem := List.getElem_mem hlt
      obtain ⟨y, hy⟩ : ∃ y, y = L[i] := ⟨_, rfl⟩
      rw [← hy] at y1 htk hmem
      by_cases hyx : y = n
      · have hq : (y == n) = true := by simp [hyx]
        have HE : Hid (bb = true) := by unfold Hid; rw [HBB.out, ← hyx]; simpa using hmem
        clear h1 hy htk hmem hn
        go_wp2
        go_ret
        exact ⟨ret_bool HE.out.symm, rfl⟩
      · have hq : (y == n) = false := by simp [hyx]
        have HN : Hid (IsRel w L n (.int .i64 ((i : Int) + 1)) w) := ⟨i + 1, by omega, by rw [htk]; simp; exact ⟨hn, fun e => hyx e.symm⟩, rfl, rfl⟩
        clear h1 hy htk hmem hn
        go_wp2
        exact ⟨HN.out, by simp [intOf]; omega⟩
    · obtain rfl : i = L.length := by omega
      have hd : decide ((L.length : Int) < (L.length : Int)) = false := by simp
      have HE : Hid (bb = false) := by rw [List.take_length] at hn; unfold Hid; rw [HBB.out]; simpa using hn
      clear hn
      go_wp2
      go_ret
      exact ⟨ret_bool HE.out.symm, rfl⟩
set_option maxRecDepth 100000 in
set_option maxHeartbeats 1000000 in
theorem rspawn_full (h : Ob w base g m x pa cap L) (hf : m ≤ (L.length : Int) ∨ 65535 < x) :
    Calls Try.prog 18 #[.pointer (some ⟨g, 0, none⟩)] w fun e w' => e = .returned (.tuple #[.int .i64 0, .int .i64 13]) ∧ ∃ q, w' = w.drewN q := by
  have c0 := h.c0
  have c1 := h.c1.1
  have c2 := h.c2.1
  clear h
  by_cases h1 : m ≤ (L.length : Int)
  · have hd : decide ((L.length : Int) ≥ m) = true := decide_eq_true h1
    go_enter Try.func18, Try.ntmps18
    go_upto_region 1 with fail
    go_quiet (fail)
    go_wp2
    exact bodyPost_ret (v := .tuple #[.int .i64 0, .int .i64 13]) (by simp [results, Try.results18, go_sem]) rfl ⟨rfl, _, rfl⟩
  · have hd : decide ((L.length : Int) ≥ m) = false := decide_eq_false h1
    have hd2 : decide (x > 65535) = true := decide_eq_true (by omega)
    go_enter Try.func18, Try.ntmps18
    go_upto_region 1 with fail
    go_quiet (fail)
    go_wp2
    exact bodyPost_ret (v := .tuple #[.int .i64 0, .int .i64 13]) (by simp [results, Try.results18, go_sem]) rfl ⟨rfl, _, rfl⟩
set_option maxRecDepth 100000 in
set_option maxHeartbeats 1000000 in
theorem rspawn_more (h : Ob w base g m x pa cap L) (hi : Iv m x L) (hf : ¬ (m ≤ (L.length : Int) ∨ 65535 < x)) :
    Calls Try.prog 18 #[.pointer (some ⟨g, 0, none⟩)] w fun e w' => ∃ pa' cap', e = .returned (.tuple #[.int .i64 x, .int .i64 0]) ∧ Ob w' base g m (x + 1) pa' cap' (L ++ [x]) ∧ Rd w w' g pa pa' := by
  have HQ := hid (fun (U : World) (hU : Below w.heap.size w U) => h.later hU)
  have c0 := h.c0
  have c1 := h.c1.1
  have c2 := h.c2.1
  have hx1 := hi.x1
  have hx2 : x ≤ 65535 := by omega
  have hll := hi.len32
  clear h hi
  have hd : decide ((L.length : Int) ≥ m) = false := decide_eq_false (by omega)
  have hd2 : decide (x > 65535) = false := decide_eq_false (by omega)
  clear hf
  go_enter Try.func18, Try.ntmps18
  go_upto_region 1 with fail
  go_quiet (fail)
  obtain ⟨w1, hw1⟩ : ∃ w1, w1 = w.drewN nq := ⟨_, rfl⟩
  have HB1 : Hid (Below w.heap.size w w1) := by rw [hw1]; exact below_drewN (Below.refl _ _) nq
  rw [← hw1]
  clear hw1 c0 c1 c2
  have hO1 := HQ.out _ HB1.out
  obtain ⟨d1, f1⟩ := hO1.c1
  have HS := hid (hO1.setX (x + 1))
  clear hO1
  go_upto_region 5 with fail
  obtain ⟨w2, hw2⟩ : ∃ w2, w2 = w1.setCell ⟨g, 1, none⟩ (.int .i64 (x + 1)) := ⟨_, rfl⟩
  rw [← hw2] at HS
  rw [← hw2]
  clear hw2 d1 f1
  have hO2 := HS.out.1
  have c2 := hO2.c2.1
  obtain ⟨a', cap', w3, hrun, hOw, hG⟩ := append_one x (.inl hO2.own) hO2.hb (by omega)
  have hlen : (L ++ [x]).length = L.length + 1 := by simp
  have hput : Hid (Ob (w3.setCell ⟨g, 2, none⟩ (.slice a' (L.length + 1) cap')) base g m (x + 1) a' cap' (L ++ [x]) ∧ Rd w (w3.setCell ⟨g, 2, none⟩ (.slice a' (L.length + 1) cap')) g pa a') := by
    rw [← hlen] at hOw ⊢
    obtain ⟨p1, p2⟩ := hO2.put hG hOw
    refine ⟨p1, ((But.of HB1.out).trans (HS.out.2.mono (fun k hk => .inl hk))).trans p2.but, fun k hk => ?_⟩
    rcases p2.on k hk with e | e
    · exact .inl e
    · exact .inr (Nat.le_trans HB1.out.size (Nat.le_trans HS.out.2.size e))
  obtain ⟨e2, f2⟩ := hO2.c2.but hG.but (fun e => hO2.ap g e rfl)
  have HRUN := hid hrun
  clear hrun hOw hG hO2 HS HQ hlen
  go_wp2_with (first | (at_builtin; refine wpList_append_known rfl _ _ 22 rfl _ _ rfl rfl _ w3 HRUN.out ?_))
  exact bodyPost_ret (v := .tuple #[.int .i64 x, .int .i64 0]) (by simp [results, Try.results18, go_sem]) rfl ⟨a', cap', rfl, hput.out.1, hput.out.2⟩
theorem out_snoc (A : List Int) (y n : Int) : out (A ++ [y]) n = out A n ++ (if y = n then [] else [y]) := by
  unfold out
  rw [List.filter_append]
  congr 1
  by_cases h : y = n
  · simp [h]
  · simp [h]
def ExRel (w : World) (L : List Int) (n : Int) (l t : Value) (w' : World) : Prop :=
  ∃ (i : Nat) (al : Option Addr) (cl : Nat), i ≤ L.length ∧ l = .slice al (out (L.take i) n).length cl ∧ t = .int .i64 (i : Int) ∧ Own w' w.heap.size 3 al (out (L.take i) n).length cl (ints (out (L.take i) n)) ∧ Below w.heap.size w w'
set_option maxRecDepth 100000 in
set_option maxHeartbeats 1000000 in
theorem rexit_any (h : Ob w base g m x pa cap L) (hl : L.length ≤ 4096) (n : Int) : Calls Try.prog 19 #[.pointer (some ⟨g, 0, none⟩), .int .i64 n] w fun e w' => ∃ pa' cap', e = .returned (.int .i64 (exC L n)) ∧ Ob w' base g m x pa' cap' (out L n) ∧ Rd w w' g pa pa' := by
  have his := hid (is_any h hl n)
  unfold exC
  by_cases hn : n ∈ L
  · have hcn : L.contains n = true := by simpa using hn
    rw [if_pos hcn]
    rw [hcn] at his
    have HO := hid h
    have HC := hid (fun (U : World) (hU : Below w.heap.size w U) => cell_later hU h.c2.1)
    have HR := hid (fun (U : World) (hU : Below w.heap.size w U) => h.own.read.later hU)
    clear h hn hcn
    go_enter Try.func19, Try.ntmps19
    go_upto_region 5 with (first | (go_at_call 30; refine his.out.mono ?_; rintro e w1 ⟨rfl, hw1⟩; obtain rfl := hw1.symm; clear hw1))
    go_loopw [5, 6] (ExRel w L n) (fun _ t _ => L.length - (intOf t).toNat)
    case atStart => exact ⟨0, none, 0, Nat.zero_le _, rfl, rfl, Own.nil _ _ _, Below.refl _ _⟩
    case round =>
      obtain ⟨i, al, cl, hi, rfl, rfl, hW, hB⟩ := hrel
      have c2 := HC.out _ hB
      by_cases hlt : i < L.length
      · have hd : decide ((i : Int) < (L.length : Int)) = true := decide_eq_true (by omega)
        obtain ⟨lb, lo, rfl, h1⟩ := (HR.out _ hB).plain (by omega)
        have y1 := h1 i _ (ints_get _ i hlt)
        have htk := take_step L i hlt
        have hol := out_le (L.take i) n
        rw [List.length_take] at hol
        obtain ⟨y, hy⟩ : ∃ y, y = L[i] := ⟨_, rfl⟩
        rw [← hy] at y1 htk
        have hos := out_snoc (L.take i) y n
        rw [← htk] at hos
        by_cases hyx : y = n
        · have hq : (y != n) = false := by simp [hyx]
          rw [if_pos hyx, List.append_nil] at hos
          have HN : Hid (ExRel w L n (.slice al (out (L.take i) n).length cl) (.int .i64 ((i : Int) + 1)) wr) := ⟨i + 1, al, cl, by omega, by rw [hos], rfl, by rw [hos]; exact hW, hB⟩
          clear h1 hy htk hos hW hB hol
          go_wp2
          exact ⟨HN.out, by simp [intOf]; omega⟩
        · have hq : (y != n) = true := by simp [hyx]
          rw [if_neg hyx] at hos
          obtain ⟨O, hO⟩ : ∃ O, O = out (L.take i) n := ⟨_, rfl⟩
          rw [← hO] at hos hW hol ⊢
          obtain ⟨a', cap', w3, hrun, hOw, hG⟩ := append_one y (.inl hW) hB.size (by omega)
          have HN : Hid (ExRel w L n (.slice a' (O.length + 1) cap') (.int .i64 ((i : Int) + 1)) w3) := ⟨i + 1, a', cap', by omega, by rw [hos]; simp, rfl, by rw [hos]; simpa using hOw, hB.trans (hG.below hW hB.size)⟩
          have HRUN := hid hrun
          clear h1 hy htk hos hW hB hol hrun hOw hG hO
          go_wp2_with (first | (at_builtin; refine wpList_append_known rfl _ _ 22 rfl _ _ rfl rfl _ w3 HRUN.out ?_))
          exact ⟨HN.out, by simp [intOf]; omega⟩
      · obtain rfl : i = L.length := by omega
        have hd : decide ((L.length : Int) < (L.length : Int)) = false := by simp
        rw [List.take_length] at hW ⊢
        have hG : Gr pa al w wr := ⟨But.of hB, fun k hk => .inr (hW.blk k hk)⟩
        have hput := hid (HO.out.put hG (hW.mono HO.out.hb))
        obtain ⟨e2, f2⟩ := HO.out.c2.later hB
        obtain ⟨O, hO⟩ : ∃ O, O = out L n := ⟨_, rfl⟩
        rw [← hO] at hput ⊢
        have HOo := hid hO
        clear hG hW hB hO
        go_wp2
        go_ret
        refine ⟨al, cl, rfl, ?_, hput.out.2⟩
        rw [← HOo.out]
        exact hput.out.1
  · have hcn : L.contains n = false := by simpa using hn
    rw [if_neg (by rw [hcn]; simp), out_none hn]
    rw [hcn] at his
    have HO := hid h
    clear h hn hcn
    go_enter Try.func19, Try.ntmps19
    go_wp2_with (first | (go_at_call 30; refine his.out.mono ?_; rintro e w1 ⟨rfl, hw1⟩; obtain rfl := hw1.symm; clear hw1))
    go_ret
    exact ⟨pa, cap, rfl, HO.out, Rd.refl _ _ (Below.refl _ _)⟩
def SnRel (w : World) (L : List Int) (n : Int) (t : Value) (w' : World) : Prop := ∃ i : Nat, i ≤ L.length ∧ (∀ y ∈ L.take i, y < n) ∧ t = .int .i64 (i : Int) ∧ w = w'
set_option maxRecDepth 100000 in
set_option maxHeartbeats 1000000 in
theorem rsetn_any (h : Ob w base g m x pa cap L) (hl : L.length ≤ 4096) (n : Int) : Calls Try.prog 20 #[.pointer (some ⟨g, 0, none⟩), .int .i64 n] w fun e w' => e = .returned (.int .i64 (snC L n)) ∧ Ob w' base g m (snX x L n) pa cap L ∧ Rd w w' g pa pa := by
  have HO := hid h
  have hs := hid (h.setX n)
  have c2 := h.c2.1
  obtain ⟨d1, f1⟩ := h.c1
  have HR := hid h.own.read
  clear h
  by_cases h1 : n < 0 ∨ 65536 < n
  · have e1 : snC L n = 5 := by unfold snC okN; rw [if_neg (by simp; omega)]
    have e2 : snX x L n = x := by unfold snX okN; rw [if_neg (by simp; omega)]
    rw [e1, e2]
    by_cases h2 : n < 0
    · have hd1 : decide (n < 0) = true := decide_eq_true h2
      go_enter Try.func20, Try.ntmps20
      go_wp2
      go_ret
      exact ⟨rfl, HO.out, Rd.refl _ _ (Below.refl _ _)⟩
    · have hd1 : decide (n < 0) = false := decide_eq_false h2
      have hd2 : decide (n > 65536) = true := decide_eq_true (by omega)
      go_enter Try.func20, Try.ntmps20
      go_wp2
      go_ret
      exact ⟨rfl, HO.out, Rd.refl _ _ (Below.refl _ _)⟩
  · have hd1 : decide (n < 0) = false := decide_eq_false (by omega)
    have hd2 : decide (n > 65536) = false := decide_eq_false (by omega)
    have hin : decide (0 ≤ n ∧ n ≤ 65536) = true := decide_eq_true (by omega)
    clear h1
    obtain ⟨cc, hcc⟩ : ∃ cc, cc = snC L n := ⟨_, rfl⟩
    obtain ⟨xx, hxx⟩ : ∃ xx, xx = snX x L n := ⟨_, rfl⟩
    rw [← hcc, ← hxx]
    have hyes : Hid (∀ (_ : ∀ y ∈ L, y < n), cc = 0 ∧ xx = n) := fun hu => by
      have ho : okN L n = true := by unfold okN under; rw [hin, decide_eq_true hu]; rfl
      rw [hcc, hxx]; unfold snC snX; rw [if_pos ho, if_pos ho]; exact ⟨rfl, rfl⟩
    have hno : Hid (∀ y ∈ L, n ≤ y → cc = 5 ∧ xx = x) := fun y hy hny => by
      have ho : ¬ okN L n = true := fun e => by
        unfold okN under at e
        rw [Bool.and_eq_true, decide_eq_true_eq, decide_eq_true_eq] at e
        have := e.2 y hy; omega
      rw [hcc, hxx]; unfold snC snX; rw [if_neg ho, if_neg ho]; exact ⟨rfl, rfl⟩
    clear hcc hxx hin
    go_enter Try.func20, Try.ntmps20
    go_wp2
    go_loopw [5] (SnRel w L n) (fun t _ => L.length - (intOf t).toNat)
    case atStart => exact ⟨0, Nat.zero_le _, by simp, rfl, rfl⟩
    case round =>
      obtain ⟨i, hi, hn, rfl, rfl⟩ := hrel
      by_cases hlt : i < L.length
      · have hd : decide ((i : Int) < (L.length : Int)) = true := decide_eq_true (by omega)
        obtain ⟨lb, lo, rfl, h1⟩ := HR.out.plain (by omega)
        have y1 := h1 i _ (ints_get _ i hlt)
        have htk := take_step L i hlt
        have hmem := List.getElem_mem hlt
        obtain ⟨y, hy⟩ : ∃ y, y = L[i] := ⟨_, rfl⟩
        rw [← hy] at y1 htk hmem
        by_cases hyx : n ≤ y
        · have hq : decide (y ≥ n) = true := decide_eq_true hyx
          have HE := hid (hno.out y hmem hyx)
          clear h1 hy htk hmem hn
          go_wp2
          go_ret
          exact ⟨ret_int HE.out.1.symm, by rw [HE.out.2]; exact HO.out, Rd.refl _ _ (Below.refl _ _)⟩
        · have hq : decide (y ≥ n) = false := decide_eq_false hyx
          have HN : Hid (SnRel w L n (.int .i64 ((i : Int) + 1)) w) := ⟨i + 1, by omega, fun z hz => by
            rw [htk] at hz
            rcases List.mem_append.1 hz with e | e
            · exact hn z e
            · rw [List.mem_singleton] at e; omega, rfl, rfl⟩
          clear h1 hy htk hmem hn
          go_wp2
          exact ⟨HN.out, by simp [intOf]; omega⟩
      · obtain rfl : i = L.length := by omega
        have hd : decide ((L.length : Int) < (L.length : Int)) = false := by simp
        rw [List.take_length] at hn
        have HE := hid (hyes.out hn)
        clear hn
        go_wp2
        go_ret
        exact ⟨ret_int HE.out.1.symm, by rw [HE.out.2]; exact hs.out.1, hs.out.2.mono (fun k hk => .inl hk), fun k hk => .inl hk⟩
end Go.Proofs.Ytlkjieophdabpaa
