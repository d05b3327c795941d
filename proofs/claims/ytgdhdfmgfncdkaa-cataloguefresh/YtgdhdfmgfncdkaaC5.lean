import Derived.Test.YtgdhdfmgfncdkaaC4
namespace Go.Proofs.Ytgdhdfmgfncdkaa
open Go.RowKit
set_option linter.unusedVariables false

def cutE (l : Fo) (n : Int) : Int := if n ∈ nums l then (if ch l n = [] then 0 else 19) else 20
def cutL (l : Fo) (n : Int) : Fo := if n ∈ nums l ∧ ch l n = [] then cut l n else l
set_option maxRecDepth 100000 in
set_option maxHeartbeats 1000000 in
theorem cut_no {w : World} {g gb m : Nat} {l : Fo} (h : Ki w g gb m l) (n : Int) (hn : n ∉ nums l ∨ ch l n ≠ []) :
    Calls Try.prog 54 #[.pointer (some ⟨g, 0, none⟩), .int .i64 n] w fun e w' => e = .returned (.int .i64 (cutE l n)) ∧ w' = w := by
  have hh := has_any h n
  by_cases h1 : n ∈ nums l
  · have h2 : ch l n ≠ [] := by
      rcases hn with hn | hn
      · exact absurd h1 hn
      · exact hn
    rw [show cutE l n = 19 by unfold cutE; rw [if_pos h1, if_neg h2]]
    rw [decide_eq_true h1] at hh
    obtain ⟨N, hT, hR⟩ := h
    obtain ⟨k, x, rfl, hk, hx⟩ := hR.get h1
    have hc := at_ok hT k hk
    have c2 := (hT.at_ k x hx).c2
    have hf := hR.fi k x hx h1
    have hpos : 0 < (ch l k).length := List.length_pos_iff.2 h2
    rw [nx_lt hpos] at hf
    have hr := hR.ok.range _ (ch_mem (List.getElem_mem hpos))
    rw [← hf] at hr
    have hne : (x.fi == -1) = false := by simp; omega
    clear hT hR hn h1 h2 hx hpos hf
    go_enter Try.func54, Try.ntmps54
    go_wp2_with (first | (go_at_call 47; refine hh.mono ?_; rintro e w1 ⟨rfl, rfl⟩) | (go_at_call 64; refine hc.mono ?_; rintro e w1 ⟨rfl, rfl⟩))
    go_ret
    exact ⟨rfl, rfl⟩
  · rw [decide_eq_false h1] at hh
    rw [show cutE l n = 20 by unfold cutE; rw [if_neg h1]]
    clear h hn h1
    go_enter Try.func54, Try.ntmps54
    go_wp2_with (first | (go_at_call 47; refine hh.mono ?_; rintro e w1 ⟨rfl, rfl⟩))
    go_ret
    exact ⟨rfl, rfl⟩
set_option maxRecDepth 100000 in
set_option maxHeartbeats 1000000 in
theorem cut_root {w : World} {g gb m : Nat} {l : Fo} (h : Ki w g gb m l) (k : Nat) (hn : ((k : Int), -1) ∈ l) (hc : ch l k = []) :
    Calls Try.prog 54 #[.pointer (some ⟨g, 0, none⟩), .int .i64 (k : Int)] w (Did w g gb m 0 (cut l k)) := by
  have h1 := mem_nums.2 ⟨_, hn⟩
  have hh := has_any h (k : Int)
  rw [decide_eq_true h1] at hh
  obtain ⟨N, hT, hR⟩ := h
  obtain ⟨k', x, hk', hk, hx⟩ := hR.get h1
  obtain rfl : k = k' := by omega
  have ha := at_ok hT k hk
  have hP := hT.at_ k x hx
  have c0 := hP.c0
  have c1 := hP.c1
  have c2 := hP.c2
  have c3 := hP.c3
  rw [hR.fi k x hx h1, hc] at c2
  rw [(hR.inn k x _ hx hn).2] at c1
  have c2' : w.cell? ⟨gb, k * 4 + 2, none⟩ = some (.int .i64 (-1)) := c2
  have f0 := hT.fr (k * 4)
  have f1 := hT.fr (k * 4 + 1)
  have f2 := hT.fr (k * 4 + 2)
  have f3 := hT.fr (k * 4 + 3)
  have HT := hid (hT.set hx nd0)
  have HB : Hid (But (· = gb) w (setN w gb (k * 4) nd0)) := setN_but (S := (· = gb)) (But.refl _ _) (b := gb) (by rfl) _ _
  unfold setN at HT HB
  simp only [nd0] at HT HB
  have HR := hid (hR.cutRoot hn hc)
  clear hT hR hn hP hx h1 c2 hk' hc
  go_enter Try.func54, Try.ntmps54
  go_wp2_with (first | (go_at_call 47; refine hh.mono ?_; rintro e w1 ⟨rfl, rfl⟩) | (go_at_call 64; refine ha.mono ?_; rintro e w1 ⟨rfl, rfl⟩))
  go_ret
  exact ⟨rfl, ⟨_, HT.out, HR.out⟩, HB.out⟩
set_option maxRecDepth 100000 in
set_option maxHeartbeats 1000000 in
theorem cut_child {w : World} {g gb m : Nat} {l : Fo} (h : Ki w g gb m l) (k p : Nat) (hn : ((k : Int), (p : Int)) ∈ l) (hc : ch l k = []) :
    Calls Try.prog 54 #[.pointer (some ⟨g, 0, none⟩), .int .i64 (k : Int)] w (Did w g gb m 0 (cut l k)) := by
  have h1 := mem_nums.2 ⟨_, hn⟩
  have hh := has_any h (k : Int)
  rw [decide_eq_true h1] at hh
  obtain ⟨N, hT, hR⟩ := h
  obtain ⟨k', x, hk', hk, hx⟩ := hR.get h1
  obtain rfl : k = k' := by omega
  have hp : (p : Int) ∈ nums l := by
    rcases hR.ok.up hn with h | h
    · omega
    · exact h
  obtain ⟨i, hi⟩ := List.getElem?_of_mem (mem_ch.2 hn)
  have hil := (List.getElem?_eq_some_iff.1 hi).1
  have ha := at_ok hT k hk
  have hP := hT.at_ k x hx
  have c1 := hP.c1
  have c2 := hP.c2
  have c3 := hP.c3
  rw [hR.fi k x hx h1, hc] at c2
  rw [(hR.inn k x _ hx hn).2] at c1
  rw [hR.be p (by omega) i k x hi hx] at c3
  have c2' : w.cell? ⟨gb, k * 4 + 2, none⟩ = some (.int .i64 (-1)) := c2
  have hC := hR.chain hp
  have hlk := hid (fun (W : World) (hW : Below w.heap.size w W) => linkTo_any (hT.later hW) hC (k : Int) i (by omega) (by rw [nx, hi]; rfl) (fun j hj e => by
    have : (ch l p)[j]? = some (k : Int) := by
      rw [nx_lt (by omega)] at e
      rw [← e]
      exact List.getElem?_eq_getElem (by omega)
    have := nd_idx (hR.ok.chNodup p) this hi
    omega))
  obtain ⟨_, hcell⟩ := Chain.cell hT hC (i := i) (by omega)
  have ff := hT.fr (lkN p (ch l p) i * 4 + lkF i)
  have hT2 := hT.setLk hC (Nat.le_of_lt hil) (nx (ch l p) (i + 1))
  unfold lkA at hlk
  have hB2 : But (· = gb) w (w.setCell ⟨gb, lkN p (ch l p) i * 4 + lkF i, none⟩ (.int .i64 (nx (ch l p) (i + 1)))) := (But.refl (· = gb) w).setCell (p := ⟨gb, _, none⟩) (show gb = gb from rfl) _
  have HR := hid (hR.cut hi hp hc)
  have hl2 := hT2.len
  generalize putL N p (ch l p) i (nx (ch l p) (i + 1)) = N2 at *
  generalize lkN p (ch l p) i * 4 + lkF i = o at *
  generalize nx (ch l p) (i + 1) = v at *
  have HT2 := hid hT2
  have HB2 := hid hB2
  clear hT hR hn hP hx h1 c2 hk' hc hC hi hil hp hT2 hB2
  go_enter Try.func54, Try.ntmps54
  go_upto_region 7 with (first | (go_at_call 47; refine hh.mono ?_; rintro e w1 ⟨rfl, rfl⟩) | (go_at_call 64; refine ha.mono ?_; rintro e w1 ⟨rfl, rfl⟩))
  go_cut [] (fun W => Tm W g gb m N2 ∧ But (· = gb) w1 W)
  case first =>
    go_region_with (first | (go_at_call 70; refine (hlk.out _ (by first | exact Below.refl _ _ | exact (Below.refl _ _).drew | exact below_drewN (Below.refl _ _) _)).mono ?_; rintro e w3 ⟨rfl, rfl⟩))
    all_goals (go_wp2_with fail)
    all_goals go_meet
    all_goals exact ⟨HT2.out.later (Below.refl _ _).drew, HB2.out.call (Below.refl _ _).drew⟩
  case rest =>
    obtain ⟨hT3, hB3⟩ := hcut
    obtain ⟨y, hy⟩ := get_some (L := N2) (i := k) (by rw [hl2]; exact hk)
    have hP := hT3.at_ k y hy
    have d0 := hP.c0
    have d1 := hP.c1
    have d2 := hP.c2
    have d3 := hP.c3
    have f0 := hT3.fr (k * 4)
    have f1 := hT3.fr (k * 4 + 1)
    have f2 := hT3.fr (k * 4 + 2)
    have f3 := hT3.fr (k * 4 + 3)
    have HT := hid (hT3.set hy nd0)
    have HB : Hid (But (· = gb) w1 (setN wc gb (k * 4) nd0)) := setN_but (S := (· = gb)) hB3 (b := gb) (by rfl) _ _
    unfold setN at HT HB
    simp only [nd0] at HT HB
    clear hT3 hB3 hP hy
    go_wp2
    go_ret
    exact ⟨rfl, ⟨_, HT.out, HR.out⟩, HB.out⟩
theorem cut_any {w : World} {g gb m : Nat} {l : Fo} (h : Ki w g gb m l) (n : Int) :
    Calls Try.prog 54 #[.pointer (some ⟨g, 0, none⟩), .int .i64 n] w (Did w g gb m (cutE l n) (cutL l n)) := by
  by_cases hn : n ∈ nums l ∧ ch l n = []
  · unfold cutE cutL
    rw [if_pos hn, if_pos hn.1, if_pos hn.2]
    have hr := h.ok.range n hn.1
    obtain ⟨k, rfl⟩ : ∃ k : Nat, n = (k : Int) := ⟨n.toNat, by omega⟩
    obtain ⟨p, hp⟩ := mem_nums.1 hn.1
    rcases h.ok.up hp with rfl | h2
    · exact cut_root h k hp hn.2
    · have hr2 := h.ok.range p h2
      obtain ⟨p, rfl⟩ : ∃ k : Nat, p = (k : Int) := ⟨p.toNat, by omega⟩
      exact cut_child h k p hp hn.2
  · refine (cut_no h n (by
      by_cases h0 : n ∈ nums l
      · exact .inr (fun h1 => hn ⟨h0, h1⟩)
      · exact .inl h0)).mono ?_
    rintro e w' ⟨rfl, rfl⟩
    refine ⟨rfl, ?_, But.refl _ _⟩
    unfold cutL
    rw [if_neg hn]
    exact h
theorem info123 : (Try.prog.info? 123).map (fun i => (i.zero, i.size, i.bytes)) = some (some (.agg #[.bool false, .int .i64 0, .int .i64 0, .int .i64 0]), 4, 32) := by kernel_rfl
theorem make_run (w : World) (n : Nat) (hn : n ≤ 1024) :
    ∃ w', (Instr.makeSlice 111 (.int .i64 (n : Int)) (.int .i64 (n : Int))).run Try.prog w = .ok (.slice (some ⟨w.heap.size, 0, none⟩) n n) w' ∧ (∀ (i : Nat) (p : Nd), (List.replicate n nd0)[i]? = some p → Pn w' w.heap.size (i * 4) p) ∧ (∀ j, w'.frozen? ⟨w.heap.size, j, none⟩ = false) ∧ w.heap.size < w'.heap.size ∧ Below w.heap.size w w' := by
  obtain ⟨i, hi, hz0, hz1, hz2⟩ := info_parts info123
  obtain ⟨w', hr, ho, hg⟩ := run_make_full (P := Try.prog) w w.heap.size 111 123 i _ 4 Try.underlying111 hi hz0 hz1 .i64 .i64 n (by rw [hz2]; omega) (by unfold maxLen; omega) (Nat.le_refl _)
  have hcell : ∀ j c u, j < n → c < 4 → (#[.bool false, .int .i64 0, .int .i64 0, .int .i64 0] : Array Value)[c]! = u → w'.cell? ⟨w.heap.size, j * 4 + c, none⟩ = some u := by
    intro j c u hj hc hu
    have hm : (j * 4 + c) % 4 = c := by omega
    have := ho.cells (g := w.heap.size) rfl (j * 4 + c) u (by
      rw [Array.getElem?_toList]
      simp only [madeCells, Value.cells, Array.getElem?_map, Array.getElem?_range]
      rw [if_pos (by omega)]
      simp only [Option.map_some, Option.some.injEq, Array.size, List.length, hm]
      exact hu)
    rw [addr_add0] at this
    exact this
  refine ⟨w', hr, fun j p hp => ?_, fun j => ?_, ?_, (Below.refl _ _).grown hg (Nat.le_refl _) (fun k hk => by cases hk)⟩
  · rw [List.getElem?_replicate] at hp
    split at hp
    · next hj =>
      have := (Option.some.inj hp).symm
      subst this
      exact ⟨hcell j 0 _ hj (by omega) rfl, hcell j 1 _ hj (by omega) rfl, hcell j 2 _ hj (by omega) rfl, hcell j 3 _ hj (by omega) rfl⟩
    · cases hp
  · rcases ho.2 with ⟨h0, _⟩ | ⟨g, c, cur, hv, _, hh, hc, _⟩
    · simp at h0
    · simp only [Value.slice.injEq, Option.some.injEq, Addr.mk.injEq] at hv
      obtain ⟨⟨rfl, _⟩, _, rfl⟩ := hv
      simp [World.frozen?, hh]
  · exact (own_block ho _ rfl).2
/-- Behind New. -/
def Fresh (w : World) (m : Nat) (e : Ending) (w' : World) : Prop :=
  ∃ g gb : Nat, e = .returned (.tuple #[.pointer (some ⟨g, 0, none⟩), .int .i64 0]) ∧ Ki w' g gb m [] ∧ w.heap.size ≤ g ∧ w.heap.size ≤ gb ∧ Below w.heap.size w w'
set_option maxRecDepth 100000 in
set_option maxHeartbeats 1000000 in
theorem new_ok (w : World) (m : Nat) (h1 : m ≤ 1024) : Calls Try.prog 35 #[.int .i64 (m : Int)] w (Fresh w m) := by
  have hk1 : ¬ (m : Int) < 0 := by omega
  have hk2 : ¬ (1024 : Int) < (m : Int) := by omega
  obtain ⟨w2, hr, hA, hF, hsz, hb⟩ := make_run w m h1
  have HA := hid hA
  have HFr := hid hF
  have HB := hid hb
  clear hA hF hb
  go_enter Try.func35, Try.ntmps35
  go_wp2
  refine bodyPost_ret (v := .tuple #[.pointer (some ⟨w2.heap.size, 0, none⟩), .int .i64 0]) (by simp [results, Try.results35, go_sem]) rfl ⟨w2.heap.size, w.heap.size, rfl, ?_, HB.out.size, Nat.le_refl _, HB.out.alloc HB.out.size _⟩
  have hsh : But (fun _ => False) w2 (w2.alloc (Obj.cells #[.slice (some ⟨w.heap.size, 0, none⟩) m m] 113)) := But.of (below1 _ _)
  refine ⟨List.replicate m nd0, ⟨by simp [go_sem], fun j => ?_, fun i p hp => (HA.out i p hp).but hsh (fun h => h), by omega, by simp; omega, by simp, h1⟩, Rep.init m⟩
  rw [World.frozen?_of_block (w := w2) (hsh.block w.heap.size hsz (fun h => h))]
  exact HFr.out j
set_option maxRecDepth 100000 in
set_option maxHeartbeats 1000000 in
theorem new_bad (w : World) (m : Int) (hb : m < 0 ∨ 1024 < m) :
    Calls Try.prog 35 #[.int .i64 m] w fun e w' => e = .returned (.tuple #[.pointer none, .int .i64 16]) ∧ w' = w := by
  by_cases h1 : m < 0
  · clear hb
    go_enter Try.func35, Try.ntmps35
    go_wp2
    exact bodyPost_ret (v := .tuple #[.pointer none, .int .i64 16]) (by simp [results, Try.results35, go_sem]) rfl ⟨rfl, rfl⟩
  · have h4 : 1024 < m := by omega
    clear hb
    go_enter Try.func35, Try.ntmps35
    go_wp2
    exact bodyPost_ret (v := .tuple #[.pointer none, .int .i64 16]) (by simp [results, Try.results35, go_sem]) rfl ⟨rfl, rfl⟩
end Go.Proofs.Ytgdhdfmgfncdkaa
