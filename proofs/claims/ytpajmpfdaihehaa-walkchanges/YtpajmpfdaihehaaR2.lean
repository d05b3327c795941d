import Derived.Test.YtpajmpfdaihehaaR1
namespace Go.Proofs.Ytpajmpfdaihehaa
open Go.RowKit
set_option linter.unusedVariables false

theorem kids_app (l : Fo) (a p n : Int) : kids (l ++ [(a, p)]) n = kids l n ++ (if p = n ∧ 0 ≤ n then [a] else []) := by
  unfold kids
  by_cases h : 0 ≤ n
  · rw [if_pos h, if_pos h, ch_app]
    by_cases e : p = n
    · rw [if_pos e, if_pos ⟨e, h⟩]
    · rw [if_neg e, if_neg (fun h => e h.1)]
  · rw [if_neg h, if_neg h, if_neg (fun e => h e.2)]
    rfl
theorem fo_step (l : Fo) (i : Nat) (y : Int × Int) (h : l[i]? = some y) : l.take (i + 1) = l.take i ++ [(y.1, y.2)] := by
  obtain ⟨h1, h2⟩ := List.getElem?_eq_some_iff.1 h
  rw [List.take_succ_eq_append_getElem h1, h2]
def KidRel (w : World) (l : Fo) (n : Int) (v t : Value) (w' : World) : Prop :=
  ∃ (i : Nat) (a : Option Addr) (k cap : Nat), i ≤ l.length ∧ k ≤ i ∧ v = .slice a k cap ∧ t = .int .i64 (i : Int) ∧ Own w' w.heap.size 3 a k cap (ints (kids (l.take i) n)) ∧ Below w.heap.size w w'
set_option maxRecDepth 100000 in
set_option maxHeartbeats 1000000 in
theorem rchildren_any {w : World} {g hb m : Nat} {l : Fo} (h : Re w g hb m l) (n : Int) :
    Calls Try.prog 29 #[.pointer (some ⟨g, 0, none⟩), .int .i64 n] w fun e w' => ∃ a k cap, e = .returned (.slice a k cap) ∧ Own w' w.heap.size 3 a k cap (ints (kids l n)) ∧ Below w.heap.size w w' := by
  obtain ⟨a, cap, h⟩ := h
  have HH := hid h
  have hl := h.ok.len
  have hb := h.big
  clear h
  go_enter Try.func29, Try.ntmps29
  go_upto_region 3 with fail
  go_loopw [5, 6] (KidRel w l n) (fun _ t _ => l.length - (intOf t).toNat)
  case atStart => exact ⟨0, none, 0, 0, Nat.zero_le _, Nat.le_refl _, rfl, rfl, by simpa [kids, ch, ints] using Own.nil _ _ _, Below.refl _ _⟩
  case round =>
    obtain ⟨i, a2, k, cap2, hi, hk, rfl, rfl, hO, hB⟩ := hrel
    have hR := HH.out.later hB
    have x1 := hR.c1.1
    have HO := hid hO
    have HB := hid hB
    clear hO hB
    by_cases hlt : i < l.length
    · obtain ⟨y, hy⟩ : ∃ y, l[i]? = some y := ⟨_, List.getElem?_eq_getElem hlt⟩
      obtain ⟨b, rfl, hP⟩ := nds_at hR.own hy
      have c0 := hP.c0
      have c1 := hP.c1
      have HST := hid (fo_step l i y hy)
      clear hy hP
      by_cases hc : y.2 = n ∧ 0 ≤ n
      · obtain ⟨hc1, hc2⟩ := hc
        have hd : (y.2 == n) = true := by simpa using hc1
        obtain ⟨a', cap', w2, hrun, hO2, hG⟩ := append_ints (HO.out.alloc (Obj.cells #[Value.int .i64 y.1] 3)) (Row.single wr 3 (.int .i64 y.1) rfl) (by have := HB.out.size; simp; omega) (by omega)
        have HRUN := hid hrun
        have hB2 : Below w.heap.size w w2 := (HB.out.alloc HB.out.size _).trans (Gr.below (HO.out.alloc _) hG (by have := HB.out.size; simp; omega))
        have HO2 : Hid (Own w2 w.heap.size 3 a' (k + 1) cap' (ints (kids (l.take (i + 1)) n))) := by
          rw [HST.out, kids_app, if_pos ⟨hc1, hc2⟩, ints_append]
          exact hO2
        have HB2 := hid hB2
        clear hrun hO2 hG hB2 hR hc1
        go_wp2_with (first | (at_builtin; refine wpList_append_known rfl _ _ 28 rfl _ _ rfl rfl _ w2 HRUN.out ?_))
        go_roundw
        case rel => exact ⟨i + 1, a', k + 1, cap', by omega, by omega, rfl, by go_num, HO2.out, HB2.out⟩
        case measure => simp [intOf]; omega
      · have HO2 : Hid (Own wr w.heap.size 3 a2 k cap2 (ints (kids (l.take (i + 1)) n))) := by
          rw [HST.out, kids_app, if_neg hc, List.append_nil]
          exact HO
        clear hR
        by_cases hc1 : y.2 = n
        · have hc2 : ¬ 0 ≤ n := fun h => hc ⟨hc1, h⟩
          have hd : (y.2 == n) = true := by simpa using hc1
          clear hc hc1
          go_wp2
          go_roundw
          case rel => exact ⟨i + 1, a2, k, cap2, by omega, by omega, rfl, by go_num, HO2.out, HB.out⟩
          case measure => simp [intOf]; omega
        · have hd : (y.2 == n) = false := by simpa using hc1
          clear hc hc1
          go_wp2
          go_roundw
          case rel => exact ⟨i + 1, a2, k, cap2, by omega, by omega, rfl, by go_num, HO2.out, HB.out⟩
          case measure => simp [intOf]; omega
    · obtain rfl : i = l.length := by omega
      clear hR
      have HF : Hid (Own wr w.heap.size 3 a2 k cap2 (ints (kids l n))) := by
        have := HO.out
        rw [List.take_length] at this
        exact this
      go_wp2
      go_ret
      exact ⟨a2, k, cap2, rfl, HF.out, HB.out⟩
/-- The blocks of the document's forest. -/
def Rb (w : World) (g k : Nat) : Prop := k = g ∨ ∃ a n cap, w.cell? ⟨g, 1, none⟩ = some (.slice a n cap) ∧ Blk a k
theorem Re.rb {w : World} {g hb m : Nat} {l : Fo} (h : Re w g hb m l) {k : Nat} (hk : Rb w g k) : hb ≤ k ∧ k < w.heap.size := by
  obtain ⟨a, cap, h⟩ := h
  rcases hk with rfl | ⟨a2, n2, c2, h2, hk⟩
  · exact ⟨h.at_, h.lt⟩
  · rw [h.c1.1] at h2
    simp only [Option.some.injEq, Value.slice.injEq] at h2
    obtain ⟨rfl, _, _⟩ := h2
    exact own_block h.own k (Blk.of.2 hk)
theorem Rb.same {w w' : World} {g k : Nat} (h : w'.heap[g]? = w.heap[g]?) (hk : Rb w' g k) : Rb w g k := by
  rcases hk with rfl | ⟨a, n, c, h2, hk⟩
  · exact .inl rfl
  · exact .inr ⟨a, n, c, by rw [← h2]; exact (World.cell?_of_block (a := ⟨g, 1, none⟩) h).symm, hk⟩
/-- Behind a call that changes the document's forest. -/
def Dd (w : World) (g hb m : Nat) (c : Int) (l : Fo) (e : Ending) (w' : World) : Prop := e = .returned (.int .i64 c) ∧ Re w' g hb m l ∧ But (Rb w g) w w'
theorem Cr.node (w : World) (y : Int × Int) : Cr (w.alloc (Obj.cells #[.int .i64 y.1, .int .i64 y.2] 78)) 2 (some ⟨w.heap.size, 0, none⟩) 1 1 (nds [y]) := by
  refine ⟨rfl, fun h => (by cases h), fun x hx j u hu => ?_, nds_one _⟩
  cases hx
  rw [addr_add0]
  have hj : j < 2 := (List.getElem?_eq_some_iff.1 hu).1
  have hm : j = 0 ∨ j = 1 := by omega
  rcases hm with rfl | rfl
  · simp [nds, encN] at hu; rw [← hu]; simp [go_sem]
  · simp [nds, encN] at hu; rw [← hu]; simp [go_sem]
/-- One more node: the append and the store. -/
theorem Rf.add {w : World} {g hb m : Nat} {a : Option Addr} {cap : Nat} {l : Fo} (h : Rf w g hb m a cap l) (n p : Int) (hok : Ok m (l ++ [(n, p)])) (hh : hb ≤ w.heap.size) :
    ∃ a' cap' w2, (Builtin.append_ #[79, 79] 79 #[.slice a l.length cap, .slice (some ⟨w.heap.size, 0, none⟩) 1 1]).run Try.prog (w.alloc (Obj.cells #[.int .i64 n, .int .i64 p] 78)) = .ok (.slice a' (l.length + 1) cap') w2 ∧
      Lies w2 ⟨g, 1, none⟩ (.slice a l.length cap) ∧ Re (w2.setCell ⟨g, 1, none⟩ (.slice a' (l.length + 1) cap')) g hb m (l ++ [(n, p)]) ∧ But (Rb w g) w (w2.setCell ⟨g, 1, none⟩ (.slice a' (l.length + 1) cap')) := by
  have hA := h.later (below1 w (Obj.cells #[.int .i64 n, .int .i64 p] 78))
  have hl := hok.len
  rw [List.length_append] at hl
  have hbg := h.big
  simp only [List.length_cons, List.length_nil] at hl
  obtain ⟨a', cap', w2, hrun, hO, hG⟩ := append_k 79 78 _ 2 16 Try.underlying79 info78 rfl (by omega) (by omega) hA.own (Cr.node w (n, p)) (by simp; omega) (by omega)
  have hg1 : ¬ Blk a g := fun hk => h.ne g hk rfl
  have hL := hA.c1.but hG.but hg1
  have hne : ∀ k, Blk a' k → k ≠ g := fun k hk e => by
    rcases hG.on k hk with h1 | h1
    · exact h.ne k h1 e
    · have := h.lt
      simp at h1
      omega
  refine ⟨a', cap', w2, hrun, hL, ⟨a', cap', ?_⟩, ?_⟩
  · have hb2 : But (· = g) w2 (w2.setCell ⟨g, 1, none⟩ (.slice a' (l.length + 1) cap')) := (But.refl (· = g) w2).setCell (p := ⟨g, 1, none⟩) (show g = g from rfl) _
    have el : (l ++ [(n, p)]).length = l.length + 1 := by simp
    refine ⟨cell_ne (cell_but hG.but hA.c0 hg1) (by omega), ?_, ?_, hne, h.at_, hok, h.big⟩
    · rw [el]; exact hL.put
    · rw [el, nds_append]
      exact own_but hb2 hO (fun k hk e => hne k (Blk.of.1 hk) e)
  · have h1 : But (Rb w g) w w2 := (But.of (below1 _ _)).comp (hG.but.mono (T := Rb w g) (fun k hk => .inr ⟨_, _, _, h.c1.1, hk⟩)) (fun i hi => .inl hi)
    exact h1.setCell (p := ⟨g, 1, none⟩) (.inl rfl) _
set_option maxRecDepth 100000 in
set_option maxHeartbeats 1000000 in
theorem rroot_any {w : World} {g hb m : Nat} {l : Fo} (h : Re w g hb m l) (n : Int) (hh : hb ≤ w.heap.size) :
    Calls Try.prog 31 #[.pointer (some ⟨g, 0, none⟩), .int .i64 n] w (Dd w g hb m (rootE m l n) (rootL m l n)) := by
  have hr := rhas_any h n
  have HH := hid h
  obtain ⟨a, cap, h⟩ := h
  have x0 := h.c0
  have x1 := h.c1.1
  have hbig := h.big
  unfold rootE rootL
  by_cases h1 : 0 ≤ n ∧ n < m
  · obtain ⟨h1a, h1b⟩ := h1
    by_cases h2 : n ∈ nums l
    · rw [if_pos ⟨h1a, h1b⟩, if_pos h2, if_neg (fun e => e.2 h2)]
      rw [decide_eq_true h2] at hr
      clear h h2
      go_enter Try.func31, Try.ntmps31
      go_wp2_with (first | (go_at_call 50; refine hr.mono ?_; rintro e w1 ⟨rfl, rfl⟩))
      go_ret
      exact ⟨rfl, HH.out, But.refl _ _⟩
    · rw [if_pos ⟨h1a, h1b⟩, if_neg h2, if_pos ⟨⟨h1a, h1b⟩, h2⟩]
      rw [decide_eq_false h2] at hr
      obtain ⟨a', cap', w2, hrun, hL, hR, hB⟩ := h.add n (-1) (.add h.ok h1a h1b h2 (.inl rfl)) hh
      have y1 := hL.1
      have y2 := hL.2
      have HRUN := hid hrun
      have HR := hid hR
      have HB := hid hB
      clear h h2 hrun hL hR hB
      go_enter Try.func31, Try.ntmps31
      go_wp2_with (first | (go_at_call 50; refine hr.mono ?_; rintro e w1 ⟨rfl, rfl⟩) | (at_builtin; refine wpList_append_known rfl _ _ 79 rfl _ _ rfl rfl _ w2 HRUN.out ?_))
      go_ret
      exact ⟨rfl, HR.out, HB.out⟩
  · rw [if_neg h1, if_neg (fun e => h1 e.1)]
    by_cases h3 : n < 0
    · clear h h1
      go_enter Try.func31, Try.ntmps31
      go_wp2
      go_ret
      exact ⟨rfl, HH.out, But.refl _ _⟩
    · have h4 : ¬ n < m := by omega
      clear h h1
      go_enter Try.func31, Try.ntmps31
      go_wp2
      go_ret
      exact ⟨rfl, HH.out, But.refl _ _⟩
set_option maxRecDepth 100000 in
set_option maxHeartbeats 1000000 in
theorem rchild_any {w : World} {g hb m : Nat} {l : Fo} (h : Re w g hb m l) (p n : Int) (hh : hb ≤ w.heap.size) :
    Calls Try.prog 32 #[.pointer (some ⟨g, 0, none⟩), .int .i64 p, .int .i64 n] w (Dd w g hb m (childE m l p n) (childL m l p n)) := by
  have hr := rhas_any h n
  have hrp := rhas_any h p
  have HH := hid h
  obtain ⟨a, cap, h⟩ := h
  have x0 := h.c0
  have x1 := h.c1.1
  have hbig := h.big
  unfold childE childL rootE
  by_cases h1 : 0 ≤ n ∧ n < m
  · obtain ⟨h1a, h1b⟩ := h1
    by_cases hp : p ∈ nums l
    · rw [decide_eq_true hp] at hrp
      rw [if_pos hp]
      by_cases h2 : n ∈ nums l
      · rw [if_pos ⟨h1a, h1b⟩, if_pos h2, if_neg (fun e => e.2.2 h2)]
        rw [decide_eq_true h2] at hr
        clear h h2 hp
        go_enter Try.func32, Try.ntmps32
        go_wp2_with (first | (have hq_ := mk1; go_at_call 50; refine hr.mono ?_; rintro e w1 ⟨rfl, rfl⟩) | (go_at_call 50; refine hrp.mono ?_; rintro e w1 ⟨rfl, rfl⟩; obtain ⟨mk1, _⟩ : ∃ m : Nat, m = 0 := ⟨0, rfl⟩))
        go_ret
        exact ⟨rfl, HH.out, But.refl _ _⟩
      · rw [if_pos ⟨h1a, h1b⟩, if_neg h2, if_pos ⟨hp, ⟨h1a, h1b⟩, h2⟩]
        rw [decide_eq_false h2] at hr
        obtain ⟨a', cap', w2, hrun, hL, hR, hB⟩ := h.add n p (.add h.ok h1a h1b h2 (.inr hp)) hh
        have y1 := hL.1
        have y2 := hL.2
        have HRUN := hid hrun
        have HR := hid hR
        have HB := hid hB
        clear h h2 hrun hL hR hB hp
        go_enter Try.func32, Try.ntmps32
        go_wp2_with (first | (have hq_ := mk1; go_at_call 50; refine hr.mono ?_; rintro e w1 ⟨rfl, rfl⟩) | (go_at_call 50; refine hrp.mono ?_; rintro e w1 ⟨rfl, rfl⟩; obtain ⟨mk1, _⟩ : ∃ m : Nat, m = 0 := ⟨0, rfl⟩) | (at_builtin; refine wpList_append_known rfl _ _ 79 rfl _ _ rfl rfl _ w2 HRUN.out ?_))
        go_ret
        exact ⟨rfl, HR.out, HB.out⟩
    · rw [decide_eq_false hp] at hrp
      rw [if_neg hp, if_neg (fun e => hp e.1)]
      clear h hp
      go_enter Try.func32, Try.ntmps32
      go_wp2_with (first | (go_at_call 50; refine hrp.mono ?_; rintro e w1 ⟨rfl, rfl⟩))
      go_ret
      exact ⟨rfl, HH.out, But.refl _ _⟩
  · have e1 : (if p ∈ nums l then (if 0 ≤ n ∧ n < (m : Int) then (if n ∈ nums l then (19 : Int) else 0) else 20) else 20) = 20 := by
      rw [if_neg h1]; split <;> rfl
    rw [e1, if_neg (fun e => h1 e.2.1)]
    by_cases h3 : n < 0
    · clear h h1 e1
      go_enter Try.func32, Try.ntmps32
      go_wp2
      go_ret
      exact ⟨rfl, HH.out, But.refl _ _⟩
    · have h4 : ¬ n < m := by omega
      clear h h1 e1
      go_enter Try.func32, Try.ntmps32
      go_wp2
      go_ret
      exact ⟨rfl, HH.out, But.refl _ _⟩
end Go.Proofs.Ytpajmpfdaihehaa
