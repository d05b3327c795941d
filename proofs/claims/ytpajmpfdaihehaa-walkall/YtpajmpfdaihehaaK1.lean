import Derived.Test.YtpajmpfdaihehaaB2
namespace Go.Proofs.Ytpajmpfdaihehaa
open Go.RowKit
set_option linter.unusedVariables false

theorem fm_take_len {f : Int → List Int} (cs : List Int) (i : Nat) : ((cs.take i).flatMap f).length ≤ (cs.flatMap f).length := by
  have h : (cs.take i ++ cs.drop i).flatMap f = cs.flatMap f := by rw [List.take_append_drop]
  rw [← h, List.flatMap_append, List.length_append]
  omega
/-- A list that is lengthened, and one that stays. -/
structure Len (w w' : World) (a : Option Addr) (k c : Nat) (P : List Int) (b : Option Addr) (j d base : Nat) (cs : List Int) : Prop where
  o : Own w' w.heap.size 3 a k c (ints P)
  s : Own w' base 3 b j d (ints cs)
  ap : ∀ z, Blk b z → ¬ Blk a z
  lt : Below w.heap.size w w'
theorem Len.step {w wr w3 : World} {a : Option Addr} {k c : Nat} {P : List Int} {b : Option Addr} {j d base : Nat} {cs : List Int} (h : Len w wr a k c P b j d base cs) (hb : Below wr.heap.size wr w3) {ar : Option Addr} {kr cr : Nat} {R : List Int} (hR : Row w3 ar kr cr (ints R)) (hl : k + kr ≤ 4096) :
    ∃ a' c' w4, (Builtin.append_ #[28, 28] 28 #[.slice a k c, .slice ar kr cr]).run Try.prog w3 = .ok (.slice a' (k + kr) c') w4 ∧ Len w w4 a' (k + kr) c' (P ++ R) b j d base cs := by
  have ho3 := h.o.later hb
  have hs3 := h.s.later hb
  have hB3 := h.lt.trans (hb.mono h.lt.size)
  obtain ⟨a', c', w4, hrun, hO, hG⟩ := append_ints ho3 hR hB3.size (by omega)
  refine ⟨a', c', w4, hrun, by rw [ints_append]; exact hO, hs3.but hG.but (fun z hz ha => h.ap z hz ha), fun z hz ha => ?_, hB3.trans (hG.below ho3 hB3.size)⟩
  rcases hG.on z ha with h1 | h1
  · exact h.ap z hz h1
  · have := hs3.lt z hz
    omega
def DownRel (w : World) (pre cs : List Int) (F : Int → List Int) (b : Option Addr) (j d base : Nat) (v t : Value) (w' : World) : Prop :=
  ∃ (i : Nat) (a : Option Addr) (k c : Nat), t = .int .i64 (i : Int) ∧ i ≤ cs.length ∧ v = .slice a k c ∧ Len w w' a k c (pre ++ (cs.take i).flatMap F) b j d base cs
theorem Re.ok {w : World} {r hb m : Nat} {l : Fo} (h : Re w r hb m l) : Ok m l := by
  obtain ⟨a, cap, h⟩ := h
  exact h.ok
theorem Re.big {w : World} {r hb m : Nat} {l : Fo} (h : Re w r hb m l) : m ≤ 1024 := by
  obtain ⟨a, cap, h⟩ := h
  exact h.big
set_option maxRecDepth 100000 in
set_option maxHeartbeats 1600000 in
theorem rdown_in {r hb m : Nat} {l : Fo} (hok : Ok m l) (hm : m ≤ 1024) : ∀ n ∈ nums l, ∀ w, Re w r hb m l →
    Calls Try.prog 44 #[.pointer (some ⟨r, 0, none⟩), .int .i64 n] w fun e w' => ∃ a k c, e = .returned (.slice a k c) ∧ Own w' w.heap.size 3 a k c (ints (G true l n)) ∧ Below w.heap.size w w' := by
  refine tree_ind hok (fun n hn ih w h => ?_)
  have hh := rhas_any h n
  rw [decide_eq_true hn] at hh
  have HR := hid h
  have hGl : (G true l n).length ≤ 1024 := Nat.le_trans (G_len hok true n) hm
  have HE : Hid (G true l n = [n] ++ (ch l n).flatMap (G true l)) := hid (G_eq hok hn)
  have HCH := hid (fun W hb => rchildren_any (h.later (w' := W) hb) n)
  rw [kids_in hok hn] at HCH
  have HIH := hid ih
  have hcl : (ch l n).length ≤ 1024 := Nat.le_trans (ch_len l n) (Nat.le_trans hok.len hm)
  have hlt : (([n]) ++ (ch l n).flatMap (G true l)).length ≤ 1024 := by have := hGl; rw [HE.out] at this; simpa using this
  clear h ih hn
  generalize ch l n = cs at HCH HE HIH hlt hcl
  go_enter Try.func44, Try.ntmps44
  go_upto_region 6 with (first | (go_at_call 50; refine hh.mono ?_; rintro e w2 ⟨rfl, h2⟩; subst h2) | (go_at_call 29; refine (HCH.out _ (below1 _ _)).mono ?_; rintro e w3 ⟨b, j, d, rfl, hO3, hb3⟩; have hlj := hO3.len; rw [ints_length] at hlj; have HO3 := hid hO3; have HB3 := hid hb3; clear hO3 hb3 HCH))
  have H0 := hid (show Len w2 w3 (some ⟨w2.heap.size, 0, none⟩) 1 1 [n] b j d (w2.heap.size + 1) cs from ⟨(Own.one_new w2 n).later HB3.out, by have := HO3.out; simpa using this, fun z hz ha => (by obtain ⟨x, hx, rfl⟩ := ha; cases hx; have := HO3.out.blk _ hz; simp at this; omega), (below1 _ _).trans (HB3.out.mono (by simp))⟩)
  clear hh
  go_loopw [5, 7] (DownRel w2 [n] cs (G true l) b j d (w2.heap.size + 1)) (fun _ t _ => cs.length - (intOf t).toNat)
  case atStart => exact ⟨0, some ⟨w2.heap.size, 0, none⟩, 1, 1, rfl, Nat.zero_le _, rfl, by simpa using H0.out⟩
  case round =>
    obtain ⟨i, a, k, c, rfl, hi, rfl, hL⟩ := hrel
    have hlk := hL.o.len
    rw [ints_length] at hlk
    by_cases hlt2 : i < cs.length
    · obtain ⟨gb2, rfl⟩ := hL.s.form (by omega)
      obtain ⟨_, e1, hL1⟩ := hL.s.lies rfl (ints_get cs i hlt2)
      cases e1
      have y := hL1.1
      have hcall := HIH.out cs[i] (List.getElem_mem _) wr (HR.out.later hL.lt)
      have HST := hid (take_step cs i hlt2)
      have hfm := fm_take_len (f := G true l) cs (i + 1)
      rw [take_step cs i hlt2, List.flatMap_append, List.length_append] at hfm
      simp only [List.flatMap_cons, List.flatMap_nil, List.append_nil] at hfm
      generalize cs[i] = x at *
      have HCL := hid hcall
      have HL := hid hL
      clear hL hL1 hcall HIH
      rw [List.length_append] at hlk hlt
      go_wp2_with (first | (go_at_call 44; refine HCL.out.mono ?_; rintro e w5 ⟨ar, kr, cr, rfl, hO5, hb5⟩; have hlr := hO5.len; rw [ints_length] at hlr; obtain ⟨a', c', w6, hrun, hL6⟩ := HL.out.step hb5 hO5.read (by omega); have HRUN := hid hrun; have HL6 := hid hL6; clear hrun hL6 hO5 hb5) | (at_builtin; refine wpList_append_known rfl _ _ 28 rfl _ _ rfl rfl _ w6 HRUN.out ?_))
      go_roundw
      case rel => exact ⟨i + 1, a', k + kr, c', by go_num, by omega, rfl, by rw [HST.out, List.flatMap_append, ← List.append_assoc]; simpa using HL6.out⟩
      case measure => simp [intOf]; omega
    · obtain rfl : i = cs.length := by omega
      rw [List.take_length] at hL hlk
      have HL := hid hL
      clear hL
      go_wp2
      go_ret
      exact ⟨a, k, c, rfl, by rw [HE.out]; exact HL.out.o, HL.out.lt⟩
set_option maxRecDepth 100000 in
set_option maxHeartbeats 1000000 in
theorem rdown_any {w : World} {r hb m : Nat} {l : Fo} (h : Re w r hb m l) (n : Int) :
    Calls Try.prog 44 #[.pointer (some ⟨r, 0, none⟩), .int .i64 n] w fun e w' => ∃ a k c, e = .returned (.slice a k c) ∧ Own w' w.heap.size 3 a k c (ints (G true l n)) ∧ Below w.heap.size w w' := by
  by_cases hn : n ∈ nums l
  · exact rdown_in h.ok h.big n hn w h
  · have hh := rhas_any h n
    rw [decide_eq_false hn] at hh
    rw [G_out hn]
    clear h hn
    go_enter Try.func44, Try.ntmps44
    go_wp2_with (first | (go_at_call 50; refine hh.mono ?_; rintro e w1 ⟨rfl, rfl⟩))
    go_ret
    exact ⟨none, 0, 0, rfl, Own.nil _ _ _, Below.refl _ _⟩
set_option maxRecDepth 100000 in
set_option maxHeartbeats 1600000 in
theorem rfall_in {r hb m : Nat} {l : Fo} (hok : Ok m l) (hm : m ≤ 1024) : ∀ n ∈ nums l, ∀ w, Re w r hb m l →
    Calls Try.prog 46 #[.pointer (some ⟨r, 0, none⟩), .int .i64 n] w fun e w' => ∃ a k c, e = .returned (.slice a k c) ∧ Own w' w.heap.size 3 a k c (ints (Fl l n)) ∧ Below w.heap.size w w' := by
  refine tree_ind hok (fun n hn ih w h => ?_)
  have hh := rhas_any h n
  rw [decide_eq_true hn] at hh
  have HR := hid h
  have hGl : (Fl l n).length ≤ 1024 := by rw [Fl_len hok n]; exact Nat.le_trans (G_len hok true n) hm
  have HE : Hid (Fl l n = (ch l n).flatMap (Fl l) ++ [n]) := hid (Fl_eq hok hn)
  have HCH := hid (fun W hb => rchildren_any (h.later (w' := W) hb) n)
  rw [kids_in hok hn] at HCH
  have HIH := hid ih
  have hcl : (ch l n).length ≤ 1024 := Nat.le_trans (ch_len l n) (Nat.le_trans hok.len hm)
  have hlt : (([] : List Int) ++ (ch l n).flatMap (Fl l)).length ≤ 1024 := by have := hGl; rw [HE.out, List.length_append] at this; rw [List.nil_append]; omega
  clear h ih hn
  generalize ch l n = cs at HCH HE HIH hlt hcl
  go_enter Try.func46, Try.ntmps46
  go_upto_region 6 with (first | (go_at_call 50; refine hh.mono ?_; rintro e w2 ⟨rfl, h2⟩; subst h2) | (go_at_call 29; refine (HCH.out _ (Below.refl _ _)).mono ?_; rintro e w3 ⟨b, j, d, rfl, hO3, hb3⟩; have hlj := hO3.len; rw [ints_length] at hlj; have HO3 := hid hO3; have HB3 := hid hb3; clear hO3 hb3 HCH))
  clear hh
  go_loopw [5, 7] (DownRel w2 [] cs (Fl l) b j d w2.heap.size) (fun _ t _ => cs.length - (intOf t).toNat)
  case atStart => exact ⟨0, none, 0, 0, rfl, Nat.zero_le _, rfl, Own.nil _ _ _, HO3.out, fun z _ ha => (by obtain ⟨_, h, _⟩ := ha; cases h), HB3.out⟩
  case round =>
    obtain ⟨i, a, k, c, rfl, hi, rfl, hL⟩ := hrel
    have hlk := hL.o.len
    rw [ints_length] at hlk
    by_cases hlt2 : i < cs.length
    · obtain ⟨gb2, rfl⟩ := hL.s.form (by omega)
      obtain ⟨_, e1, hL1⟩ := hL.s.lies rfl (ints_get cs i hlt2)
      cases e1
      have y := hL1.1
      have hcall := HIH.out cs[i] (List.getElem_mem _) wr (HR.out.later hL.lt)
      have HST := hid (take_step cs i hlt2)
      have hfm := fm_take_len (f := Fl l) cs (i + 1)
      rw [take_step cs i hlt2, List.flatMap_append, List.length_append] at hfm
      simp only [List.flatMap_cons, List.flatMap_nil, List.append_nil] at hfm
      generalize cs[i] = x at *
      have HCL := hid hcall
      have HL := hid hL
      clear hL hL1 hcall HIH
      rw [List.length_append] at hlk hlt
      go_wp2_with (first | (go_at_call 46; refine HCL.out.mono ?_; rintro e w5 ⟨ar, kr, cr, rfl, hO5, hb5⟩; have hlr := hO5.len; rw [ints_length] at hlr; obtain ⟨a', c', w6, hrun, hL6⟩ := HL.out.step hb5 hO5.read (by omega); have HRUN := hid hrun; have HL6 := hid hL6; clear hrun hL6 hO5 hb5) | (at_builtin; refine wpList_append_known rfl _ _ 28 rfl _ _ rfl rfl _ w6 HRUN.out ?_))
      go_roundw
      case rel => exact ⟨i + 1, a', k + kr, c', by go_num, by omega, rfl, by rw [HST.out, List.flatMap_append, ← List.append_assoc]; simpa using HL6.out⟩
      case measure => simp [intOf]; omega
    · obtain rfl : i = cs.length := by omega
      rw [List.take_length] at hL hlk
      have HL := hid hL
      obtain ⟨a', c', w6, hrun, hO6, hG6⟩ := append_one n (.inl hL.o) hL.lt.size (by omega)
      have HRUN := hid hrun
      have HO6 := hid hO6
      have HB6 := hid (hL.lt.trans (hG6.below hL.o hL.lt.size))
      clear hL hrun hO6 hG6
      go_wp2_with (first | (at_builtin; refine wpList_append_known rfl _ _ 28 rfl _ _ rfl rfl _ w6 HRUN.out ?_))
      go_ret
      exact ⟨a', k + 1, c', rfl, by rw [HE.out]; simpa using HO6.out, HB6.out⟩
set_option maxRecDepth 100000 in
set_option maxHeartbeats 1000000 in
theorem rfall_any {w : World} {r hb m : Nat} {l : Fo} (h : Re w r hb m l) (n : Int) :
    Calls Try.prog 46 #[.pointer (some ⟨r, 0, none⟩), .int .i64 n] w fun e w' => ∃ a k c, e = .returned (.slice a k c) ∧ Own w' w.heap.size 3 a k c (ints (Fl l n)) ∧ Below w.heap.size w w' := by
  by_cases hn : n ∈ nums l
  · exact rfall_in h.ok h.big n hn w h
  · have hh := rhas_any h n
    rw [decide_eq_false hn] at hh
    rw [Fl_out hn]
    clear h hn
    go_enter Try.func46, Try.ntmps46
    go_wp2_with (first | (go_at_call 50; refine hh.mono ?_; rintro e w1 ⟨rfl, rfl⟩))
    go_ret
    exact ⟨none, 0, 0, rfl, Own.nil _ _ _, Below.refl _ _⟩
set_option maxRecDepth 100000 in
set_option maxHeartbeats 1000000 in
theorem rup_out {w : World} {r hb m : Nat} {l : Fo} (h : Re w r hb m l) (n : Int) (hn : n ∉ nums l) :
    Calls Try.prog 45 #[.pointer (some ⟨r, 0, none⟩), .int .i64 n] w fun e w' => ∃ a k c, e = .returned (.slice a k c) ∧ Own w' w.heap.size 3 a k c (ints (U l n)) ∧ Below w.heap.size w w' := by
  have hp := rparent_any h n
  rw [show parV l n = .tuple #[.int .i64 0, .bool false] by unfold parV; rw [List.find?_eq_none.2 (fun x hx => by simp; intro e; exact hn (mem_nums.2 ⟨x.2, by rw [← e]; exact hx⟩))]] at hp
  rw [U_out hn]
  clear h hn
  go_enter Try.func45, Try.ntmps45
  go_wp2_with (first | (go_at_call 27; refine hp.mono ?_; rintro e w1 ⟨rfl, rfl⟩))
  go_ret
  exact ⟨none, 0, 0, rfl, Own.nil _ _ _, Below.refl _ _⟩
set_option maxRecDepth 100000 in
set_option maxHeartbeats 1000000 in
theorem rup_in {r hb m : Nat} {l : Fo} (hok : Ok m l) (hm : m ≤ 1024) : ∀ n ∈ nums l, ∀ w, Re w r hb m l →
    Calls Try.prog 45 #[.pointer (some ⟨r, 0, none⟩), .int .i64 n] w fun e w' => ∃ a k c, e = .returned (.slice a k c) ∧ Own w' w.heap.size 3 a k c (ints (U l n)) ∧ Below w.heap.size w w' := by
  refine up_ind hok (fun n p hn ih w h => ?_)
  have hp := rparent_any h n
  rw [show parV l n = .tuple #[.int .i64 p, .bool true] by unfold parV; rw [find_in hok hn]] at hp
  have hl := Nat.le_trans (U_len hok p) hm
  have HC : Hid (∀ W, Re W r hb m l → Calls Try.prog 45 #[.pointer (some ⟨r, 0, none⟩), .int .i64 p] W fun e w' => ∃ a k c, e = .returned (.slice a k c) ∧ Own w' W.heap.size 3 a k c (ints (U l p)) ∧ Below W.heap.size W w') := hid (fun W hW => by
    by_cases hpn : p ∈ nums l
    · exact ih hpn W hW
    · exact rup_out hW p hpn)
  rw [U_eq hok hn]
  have HR := hid h
  generalize U l p = X at HC hl ⊢
  clear h ih hn
  go_enter Try.func45, Try.ntmps45
  go_wp2_with (first | (go_at_call 27; refine hp.mono ?_; rintro e w1 ⟨rfl, h1⟩; subst h1) | (go_at_call 45; refine (HC.out _ (HR.out.later (below1 _ _))).mono ?_; rintro e w3 ⟨ar, kr, cr, rfl, hO3, hb3⟩; have hlr := hO3.len; rw [ints_length] at hlr; obtain ⟨a', c', w4, hrun, hO4, hG4⟩ := append_ints ((Own.one_new w1 n).later hb3) hO3.read (by have := hb3.size; simp at this; omega) (by omega); have HRUN := hid hrun; have HO4 := hid hO4; have HB4 := hid (((below1 w1 (Obj.cells #[.int .i64 n] 3)).trans (hb3.mono (by simp))).trans (hG4.below ((Own.one_new w1 n).later hb3) (by have := hb3.size; simp at this; omega))); clear hrun hO4 hG4 hO3 hb3) | (at_builtin; refine wpList_append_known rfl _ _ 28 rfl _ _ rfl rfl _ w4 HRUN.out ?_))
  go_ret
  exact ⟨a', 1 + kr, c', rfl, by have := HO4.out; rwa [← ints_append] at this, HB4.out⟩
theorem rup_any {w : World} {r hb m : Nat} {l : Fo} (h : Re w r hb m l) (n : Int) :
    Calls Try.prog 45 #[.pointer (some ⟨r, 0, none⟩), .int .i64 n] w fun e w' => ∃ a k c, e = .returned (.slice a k c) ∧ Own w' w.heap.size 3 a k c (ints (U l n)) ∧ Below w.heap.size w w' := by
  by_cases hn : n ∈ nums l
  · exact rup_in h.ok h.big n hn w h
  · exact rup_out h n hn
set_option maxRecDepth 100000 in
set_option maxHeartbeats 1000000 in
theorem runder_any {w : World} {r hb m : Nat} {l : Fo} (h : Re w r hb m l) (a n : Int) :
    Calls Try.prog 47 #[.pointer (some ⟨r, 0, none⟩), .int .i64 a, .int .i64 n] w fun e w' => e = .returned (.bool (decide (a ∈ U l n))) ∧ Below w.heap.size w w' := by
  have HD := hid (rdown_any h a)
  have hl := Nat.le_trans (G_len h.ok true a) h.big
  obtain ⟨d, hd⟩ : ∃ d, d = decide (a ∈ U l n) := ⟨_, rfl⟩
  have HDD : Hid (d = decide (n ∈ G true l a)) := hid (by rw [hd]; simp only [mem_G_iff h.ok])
  rw [← hd]
  generalize G true l a = A at HD HDD hl
  clear h hd
  go_enter Try.func47, Try.ntmps47
  go_upto_region 3 with (first | (go_at_call 44; refine HD.out.mono ?_; rintro e w1 ⟨a1, k1, c1, rfl, hO1, hb1⟩; have hlk := hO1.len; rw [ints_length] at hlk; have HO := hid hO1; have HB := hid hb1; clear hO1 hb1))
  go_loopw [8] (fun v w' => ∃ (i : Nat), v = .int .i64 (i : Int) ∧ i ≤ k1 ∧ Hid (n ∉ A.take i) ∧ w1 = w') (fun k _ => k1 - (intOf k).toNat)
  case atStart => exact ⟨0, rfl, Nat.zero_le _, by simp [Hid], rfl⟩
  case round =>
    obtain ⟨i, rfl, hi, hx, rfl⟩ := hrel
    by_cases hlt : i < k1
    · obtain ⟨b1, o1, rfl, h1⟩ := HO.out.read.plain (by omega)
      have y1 := h1 i _ (ints_get A i (by omega))
      obtain ⟨y, hy⟩ : ∃ y, y = A[i] := ⟨_, rfl⟩
      rw [← hy] at y1
      have HY := hid hy
      clear h1 hy
      by_cases hxy : y = n
      · have hq : (y == n) = true := by simp [hxy]
        go_wp2
        go_ret
        refine ⟨ret_bool ?_, HB.out⟩
        rw [HDD.out]
        exact (decide_eq_true (by rw [← hxy, HY.out]; exact List.getElem_mem _)).symm
      · have hq : (y == n) = false := by simp [hxy]
        go_wp2
        refine ⟨⟨i + 1, rfl, by omega, ?_, trivial⟩, by simp [intOf]; omega⟩
        show n ∉ A.take (i + 1)
        rw [take_step A i (by omega), ← HY.out]
        intro hm
        rw [List.mem_append, List.mem_singleton] at hm
        rcases hm with hm | hm
        · exact hx.out hm
        · exact hxy hm.symm
    · obtain rfl : i = k1 := by omega
      go_wp2
      go_ret
      refine ⟨ret_bool ?_, HB.out⟩
      rw [HDD.out]
      have := hx.out
      rw [List.take_of_length_le (by omega)] at this
      exact (decide_eq_false this).symm
end Go.Proofs.Ytpajmpfdaihehaa
