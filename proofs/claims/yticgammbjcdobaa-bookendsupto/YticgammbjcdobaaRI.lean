import Derived.Test.YticgammbjcdobaaRH
namespace Go.Proofs.Yticgammbjcdobaa
open Go.RowKit Go.Shelf Go.Lib Go.Sort
set_option linter.unusedVariables false
set_option linter.unusedSimpArgs false
attribute [local go_sem] Oper.semAt_some
theorem isAggT (w : World) : (isAgg 77).run Try.prog w = .ok true w := by simp [go_sem]
theorem sizeOfT (w : World) : (Go.sizeOf 77).run Try.prog w = .ok 6 w := by simp [go_sem]
/-- slices.SortFunc at tokens, by their steps. -/
theorem sort_some (g c : Nat) (ts : List Tn) (base : Nat) (w : World) (hO : Ow w base 77 6 (some ⟨g, 0, none⟩) ts.length c (flatT ts)) (hl : ts.length ≤ 100000000) :
    Calls Try.prog 49 #[.slice (some ⟨g, 0, none⟩) ts.length c, .func (.func 37) #[] #[]] w fun e w' => e = .returned (.tuple #[]) ∧ ∃ ts' : List Tn, ts'.Perm ts ∧ ts'.Pairwise (fun x y => x.s ≤ y.s) ∧ Tks w' base (some ⟨g, 0, none⟩) ts' ∧ But (· = g) w w' := by
  have hg : base ≤ g ∧ g < w.heap.size := hO.blk g ⟨_, rfl, rfl⟩
  have hH := hO.holdsT
  have hcon := AnyQ.slices_SortFunc sortT 6 isAggT sizeOfT Tn.L (fun _ => rfl) (fun x => oneT x) cmpT swoT 37 #[] g 0 c ts.toArray w (enters_of Try.func37 (by kernel_rfl) rfl) (fun _ _ _ _ x y => step_any x y _) hH hg.2 (by simp; omega)
  refine hcon.mono ?_
  rintro e w' ⟨rfl, d', n, os, ⟨hsz, _, hp⟩, hs, rfl⟩
  simp only [List.size_toArray] at hsz hp hs
  refine ⟨rfl, d'.toList, ?_, ?_, ?_, sortW_but (d := d') hg.2⟩
  · have e1 : (d'.extract 0 ts.length).toList = d'.toList := by simp [← hsz]
    have e2 : (ts.toArray.extract 0 ts.length).toList = ts := by simp
    rwa [e1, e2] at hp
  · rw [List.pairwise_iff_getElem]
    intro i j hi hj hij
    have h1 := hs i j (Nat.zero_le _) hij (by simp at hj; omega)
    rw [ltT] at h1
    simp at hi hj
    rw [getElem!_pos d' i hi, getElem!_pos d' j hj] at h1
    simpa using h1
  · intro i t ht
    have hi : i < d'.size := by simpa using (List.getElem?_eq_some_iff.1 ht).1
    have e : d'[i]! = t := by
      rw [getElem!_pos d' i hi]
      simpa using (List.getElem?_eq_some_iff.1 ht).2
    have hG : HoldsK Tn.L 6 (sortWorldK Tn.L 6 w g 0 n d' os) g 0 d' := holdsK_sortWorldK Tn.L 6 w g 0 n ts.toArray d' os hg.2 hH (by simp [hsz])
    refine ⟨g, rfl, hg.1, fun j v hv => ?_⟩
    have hj : j < 6 := by have := (List.getElem?_eq_some_iff.1 hv).1; simpa [Tn.L] using this
    have h1 := (hG.cell (i := i) (c := j) hi hj).1
    rw [e, Nat.zero_add] at h1
    rw [h1]
    have hlt : j < t.L.length := by simpa [Tn.L] using hj
    rw [getElem!_pos t.L j hlt]
    rw [List.getElem?_eq_getElem hlt] at hv
    exact hv
/-- slices.Collect. -/
theorem collect_in {n gf M : Nat} {lb : Array Value} (hn : 4 ≤ n) (eg : ∀ args w, (callFunc gf args).run Try.prog w = .ok (.enter gf args) w) {S : List Tn → Prop} (hM : M ≤ 100000000) {w : World} (hseq : SeqGives Fence.wide (n - 1 - 1) Try.prog gf lb (fun t : Tn => Tn.v t) S M w) (hSM : ∀ ts, S ts → ts.length ≤ M) :
    CallsIn Fence.wide n Try.prog 48 #[.func (.func gf) #[] lb] w fun e w' => ∃ a c ts, e = .returned (.slice a ts.length c) ∧ S ts ∧ Ow w' w.heap.size 77 6 a ts.length c (flatT ts) ∧ Below w.heap.size w w' := by
  refine callsIn_of_wp Try.func48 rfl trivial ?_ rfl
  simp only [Try.ntmps48, List.size_toArray, List.length_cons, List.length_nil, Nat.reduceAdd, Nat.reduceSub, Array.replicate_succ, Array.replicate_zero, List.push_toArray, List.append_toArray, List.nil_append, List.cons_append]
  have HA := hid (appendSeq_in (n := n - 1) (by omega) eg hM hseq hSM)
  gi_wp2_with (refine ⟨trivial, fun h => (by cases h), ?_⟩; gi_at_call 53; refine HA.out.mono ?_; rintro e w1 ⟨a, c, ts, rfl, hS, hO, hB⟩; have HO := hid hO; have HB := hid hB; clear hO hB)
  go_ret
  exact ⟨a, c, ts, rfl, hS, HO.out, HB.out⟩
open Go.RowKit Go.Shelf Go.Lib Go.Sort
set_option linter.unusedVariables false
set_option linter.unusedSimpArgs false
attribute [local go_sem] Oper.semAt_some
theorem sort_any (a : Option Addr) (c : Nat) (ts : List Tn) (base : Nat) (w : World) (hO : Ow w base 77 6 a ts.length c (flatT ts)) (hl : ts.length ≤ 100000000) :
    Calls Try.prog 49 #[.slice a ts.length c, .func (.func 37) #[] #[]] w fun e w' => e = .returned (.tuple #[]) ∧ ∃ ts' : List Tn, ts'.Perm ts ∧ ts'.Pairwise (fun x y => x.s ≤ y.s) ∧ Tks w' base a ts' ∧ But (Blk a) w w' := by
  cases ts with
  | nil =>
    refine (AnyF.slices_SortFunc_none { sortT with } a c _ w).mono ?_
    rintro e w' ⟨rfl, rfl⟩
    exact ⟨rfl, [], List.Perm.refl _, List.Pairwise.nil, fun i t h => by simp at h, But.refl _ _⟩
  | cons t r =>
    obtain ⟨g, rfl⟩ := hO.some_of (by simp)
    refine (sort_some g c (t :: r) base w hO hl).mono ?_
    rintro e w' ⟨rfl, ts', h1, h2, h3, h4⟩
    exact ⟨rfl, ts', h1, h2, h3, h4.mono (fun k hk => ⟨_, rfl, hk.symm⟩)⟩
/-- The values of a map, by their steps. -/
structure AllS (es : Array MapEntry) (ts : List Tn) : Prop where
  all : ∃ ts0, AllV es ts0 ∧ ts.Perm ts0
  srt : ts.Pairwise (fun x y => x.s ≤ y.s)
theorem AllV.len {es : Array MapEntry} {ts : List Tn} (h : AllV es ts) : ts.length ≤ es.size := by
  obtain ⟨ps, h1, h2, h3, h4⟩ := h
  have hl : ts.length = ps.length := by have := congrArg List.length h1; simpa using this.symm
  omega
set_option maxRecDepth 100000 in
set_option maxHeartbeats 2000000 in
/-- slices.SortedFunc over the values of a map. -/
theorem sorted_any {w : World} {mb : Option Nat} {es : Array MapEntry} {B0 : Nat} (hs : Src w mb es) (hv : ∀ e ∈ es.toList, ∃ t, RL e.val t) (hc : w.cell? ⟨B0, 0, none⟩ = some (.map mb)) (hl : es.size ≤ 100000000) :
    Calls Try.prog 35 #[.func (.func 50) #[] #[.pointer (some ⟨B0, 0, none⟩)], .func (.func 37) #[] #[]] w fun e w' => ∃ a c ts, e = .returned (.slice a ts.length c) ∧ AllS es ts ∧ Tks w' w.heap.size a ts ∧ Below w.heap.size w w' := by
  have hcl := (callsIn_wide (n := 4)).1 (collect_in (n := 4) (gf := 50) (lb := #[.pointer (some ⟨B0, 0, none⟩)]) (by omega) (enters_of Try.func50 (by kernel_rfl) rfl) hl (vals_in hs hv hc 2) (fun ts h => h.len))
  have HC := hid hcl
  have HL := hid hl
  clear hcl hs hv hc hl
  go_enter Try.func35, Try.ntmps35
  go_upto_region 2 with (first | (go_at_call 48; refine HC.out.mono ?_; rintro e w1 ⟨a, c, ts, rfl, hS, hO, hB⟩; have HS := hid hS; have HO := hid hO; have HB := hid hB; clear hS hO hB))
  have HT := hid (sort_any a c ts w.heap.size w1 HO.out (Nat.le_trans HS.out.len HL.out))
  have HN : Hid (∃ k, k = ts.length) := hid ⟨_, rfl⟩
  generalize hn : ts.length = k at HT ⊢
  go_wp2_with (first | (go_at_call 49; refine HT.out.mono ?_; rintro e w2 ⟨rfl, ts', h1, h2, h3, h4⟩; have HP := hid (And.intro h1 (And.intro h2 (And.intro h3 h4))); clear h1 h2 h3 h4))
  go_ret
  obtain ⟨h1, h2, h3, h4⟩ := HP.out
  exact ⟨a, c, ts', by rw [← hn, h1.length_eq]; rfl, ⟨⟨ts, HS.out, h1⟩, h2⟩, h3, But.below HB.out h4 (fun j hj => (HO.out.blk j hj).1)⟩
end Go.Proofs.Yticgammbjcdobaa
