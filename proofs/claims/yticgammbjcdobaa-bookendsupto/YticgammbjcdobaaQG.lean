import Derived.Test.YticgammbjcdobaaQF
namespace Go.Proofs.Yticgammbjcdobaa
open Go.RowKit
set_option linter.unusedVariables false
set_option linter.unusedSimpArgs false
set_option maxRecDepth 100000 in
set_option maxHeartbeats 2000000 in
theorem chain9 (p : Option Addr) (ls : List Lk) (w : World) (h : Tls w p ls) (hn : ls.length < 1000000000) :
    Calls Try.prog 28 #[.pointer p] w fun e w' => ∃ a' c', e = .returned (.slice a' ls.length c') ∧ Ow w' w.heap.size 46 7 a' ls.length c' (lksL ls.reverse) ∧ Below w.heap.size w w' := by
  have HT := hid h
  clear h
  go_enter Try.func28, Try.ntmps28
  go_wp2
  go_loopw [0, 3] (ChRel w ls) (fun _ o _ => ls.length - slN o)
  case atStart => exact ⟨0, p, none, 0, rfl, rfl, Nat.zero_le _, HT.out, Ow.nil _ _ _ _, Below.refl _ _⟩
  case round =>
    obtain ⟨i, p', a, c, rfl, rfl, hi, hT, hO, hB⟩ := hrel
    by_cases hlt : i < ls.length
    · obtain ⟨x, hx⟩ : ∃ x, ls[i]? = some x := ⟨_, List.getElem?_eq_getElem hlt⟩
      have hd : ls.drop i = x :: ls.drop (i + 1) := by rw [List.drop_eq_getElem_cons hlt]; congr 1; rw [List.getElem?_eq_getElem hlt] at hx; exact Option.some.inj hx
      rw [hd] at hT
      obtain ⟨k, ah, rfl, ht, hr⟩ := hT
      obtain ⟨s, kd, b, t, cp⟩ := x
      have hbx := ht.bx
      obtain ⟨a', c', w1, hap, ho, hb, hnw⟩ := ow_snoc9 42 46 _ 7 56 Try.underlying42 infoL7 rfl (by omega) (cs := lkL s kd b t cp) hO rfl (one7 _ _ _ _ _) hB.size (by omega) (by omega)
      have hB1 : Below w.heap.size w w1 := But.below hB hb (fun j hj => (hO.blk j hj).1)
      have hk1 : ¬ Blk a k := fun hj => by
        obtain ⟨y, hy, e1⟩ := hj
        rcases hO.2 with ⟨h1, h2⟩ | ⟨g, cp, cur, hv, hg, hh, r⟩
        · simp only [Value.slice.injEq] at h1
          rw [hy] at h1
          exact absurd h1.1 (by simp)
        · simp only [Value.slice.injEq] at hv
          rw [hy] at hv
          have e2 := Option.some.inj hv.1
          rw [e2] at e1
          simp only at e1
          subst e1
          have h' : wr.heap[g]? = _ := ht
          rw [hh] at h'
          simp at h'
      have hall : ∀ {q : List Lk} {z : Option Addr}, Tls wr z q → Tls w1 z q := by
        intro q
        induction q with
        | nil => intro z h; exact h
        | cons y q ih =>
          intro z ⟨k2, ah2, e, ht2, hr2⟩
          refine ⟨k2, ah2, e, ht2.but hb (fun hj => ?_), ih hr2⟩
          obtain ⟨y, hy, e1⟩ := hj
          rcases hO.2 with ⟨h1, h2⟩ | ⟨g, cp, cur, hv, hg, hh, r⟩
          · simp only [Value.slice.injEq] at h1
            rw [hy] at h1
            exact absurd h1.1 (by simp)
          · simp only [Value.slice.injEq] at hv
            rw [hy] at hv
            have e2 := Option.some.inj hv.1
            rw [e2] at e1
            simp only at e1
            subst e1
            have h' : wr.heap[g]? = _ := ht2
            rw [hh] at h'
            simp at h'
      have HR : Hid ((Builtin.append_ #[42, 42] 42 #[.slice a i c, .slice (some ⟨wr.heap.size, 0, none⟩) 1 1]).run Try.prog (wr.alloc (Obj.cells #[.int .i64 s, .int .i64 kd, .int .i64 b, .int .i64 t, .int .i64 cp.o, .int .u64 (cp.h : Int), .int .u64 (cp.l : Int)] 46)) = .ok (.slice a' (i + 1) c') w1) := hap
      have HO : Hid (Ow w1 w.heap.size 46 7 a' (i + 1) c' (lksL (ls.take (i + 1)))) := by
        have e : ls.take (i + 1) = ls.take i ++ [⟨s, kd, b, t, cp⟩] := by rw [List.take_add_one, hx]; rfl
        unfold Hid
        rw [e, lksL_app]
        have e2 : lksL [⟨s, kd, b, t, cp⟩] = lkL s kd b t cp := by simp [lksL]
        rw [e2]
        exact ho
      have HB := hid hB1
      have HTr := hid (hall hr)
      have HX := hid (hbx.but hb hk1)
      have x0 := hbx.cell 0 rfl
      have x1 := hbx.cell 1 rfl
      have x2 := hbx.cell 2 rfl
      have x3 := hbx.cell 3 rfl
      have x4 := hbx.cell 4 rfl
      have x5 := hbx.cell 5 rfl
      have x6 := hbx.cell 6 rfl
      clear hr ho hb hnw hB1 hB hO hk1 hall ht hbx hap hd hx HT
      go_wp2_with (first | (at_builtin; refine wpList_append_known rfl _ _ 42 rfl _ _ rfl rfl _ w1 HR.out ?_; (have x7 := HX.out.cell 7 rfl)))
      exact ⟨⟨i + 1, ah, a', c', rfl, rfl, hlt, HTr.out, HO.out, HB.out⟩, by simp [slN]; omega⟩
    · obtain rfl : i = ls.length := by omega
      rw [List.drop_length] at hT
      have hT' : p' = none := hT
      subst hT'
      rw [List.take_length] at hO
      have HRv := hid (rev_any hO (by omega))
      have HO := hid hO
      have HB := hid hB
      clear hO hB hT HT
      go_wp2_with (first | (go_at_call 45; refine HRv.out.mono ?_; rintro e w2 ⟨rfl, ho2, hb2⟩; have HO2 := hid ho2; have HB2 := hid hb2; clear ho2 hb2))
      go_ret
      exact ⟨a, c, rfl, HO2.out, But.below HB.out HB2.out (fun j hj => (HO.out.blk j hj).1)⟩
/-- A list of capabilities copied into new memory. -/
theorem caps_copy9 {w : World} {base : Nat} {a : Option Addr} {n c : Nat} {l : List Cp} (h : Ow w base 31 3 a n c (capsL l)) (hl : l.length = n) (hn : 0 < n) (hb : n ≤ 1000000000) :
    ∃ a' c' w', (Builtin.append_ #[26, 26] 26 #[.slice (some ⟨w.heap.size, 0, none⟩) 0 0, .slice a n c]).run Try.prog (w.alloc (Obj.cells #[] 31)) = .ok (.slice a' n c') w' ∧ Ow w' w.heap.size 31 3 a' n c' (capsL l) ∧ Below w.heap.size w w' := by
  obtain ⟨g, hg⟩ := h.some_of hn
  have hb1 := below1 w (Obj.cells #[] 31)
  obtain ⟨i, hi, hz0, hz1, hz2⟩ := info_parts infoC3
  have ho : (w.alloc (Obj.cells #[] 31)).ownsRow w.heap.size 31 3 (.slice (some ⟨w.heap.size, 0, none⟩) 0 0) 0 [] := ⟨by simp, .inr ⟨w.heap.size, 0, #[], rfl, Nat.le_refl _, Array.getElem?_push_size, Nat.le_refl _, Nat.zero_le _, by simp, by simp⟩⟩
  have hcell := (h.later hb1).cells hg
  obtain ⟨v', w', hr, h2, h3, _, h5⟩ := run_append_own_at (P := Try.prog) (w.alloc (Obj.cells #[] 31)) w.heap.size 26 26 31 i _ 3 24 Try.underlying26 hi hz0 hz1 hz2 rfl (by omega) _ 0 _ ho ⟨g, 0, none⟩ n c (capsL l) (by rw [capsL_len, hl]) (fun j u hu => by
    rw [addr_add0]
    have := hcell j u hu
    rw [Nat.zero_add] at this
    exact this) (caps_one l) (by unfold maxLen; omega) (by omega) (by simp)
  simp only [Nat.zero_add, List.nil_append] at h2
  obtain ⟨a', c', rfl⟩ : ∃ a' c', v' = .slice a' n c' := by
    rcases h2.2 with ⟨h, h'⟩ | ⟨g', cap', _, h, _⟩
    · exact ⟨.none, 0, by rw [h, h']⟩
    · exact ⟨_, cap', h⟩
  refine ⟨a', c', w', by rw [hg]; exact hr, h2, ?_⟩
  have hbut : But (Blk (some ⟨w.heap.size, 0, none⟩)) (w.alloc (Obj.cells #[] 31)) w' := ⟨h3.os, h3.tape, h3.output, h3.size, fun j hj hn => h3.block j hj (fun e => hn (Blk.of.1 e.symm))⟩
  exact But.below hb1 hbut (fun k hk => by obtain ⟨x, hx, e⟩ := hk; cases hx; simp at e; omega)
set_option maxRecDepth 100000 in
set_option maxHeartbeats 2000000 in
theorem clone9 {w : World} {base : Nat} {a : Option Addr} {n c : Nat} {l : List Cp} (h : Ow w base 31 3 a n c (capsL l)) (hl : l.length = n) (hn : 0 < n) (hb : n ≤ 1000000000) :
    Calls Try.prog 26 #[.slice a n c] w fun e w' => ∃ a' c', e = .returned (.slice a' n c') ∧ Ow w' w.heap.size 31 3 a' n c' (capsL l) ∧ Below w.heap.size w w' := by
  obtain ⟨g, rfl⟩ := h.some_of hn
  obtain ⟨a', c', w', hr, ho, hbe⟩ := caps_copy9 h hl hn hb
  have HR := hid hr
  have HO := hid ho
  have HB := hid hbe
  have hnil := nilC ⟨g, 0, none⟩ n c w
  clear hr ho hbe h
  go_enter Try.func26, Try.ntmps26
  go_wp2_with (first | (at_builtin; refine wpList_append_known rfl _ _ 26 rfl _ _ rfl rfl _ w' HR.out ?_))
  go_ret
  exact ⟨a', c', rfl, HO.out, HB.out⟩
set_option maxRecDepth 100000 in
set_option maxHeartbeats 2000000 in
theorem known9 (m : Bm) (k : Kn) (w : World) (h : Bw w m) (hk : k ∈ m.K) (hn : 0 < k.s.n) (hb : k.s.n ≤ 1000000000) :
    Calls Try.prog 8 #[.pointer (some ⟨m.g, 0, none⟩), .int .i64 k.p] w fun e w' => ∃ a' c', e = .returned (.slice a' k.s.n c') ∧ Ow w' w.heap.size 31 3 a' k.s.n c' (capsL k.l) ∧ Below w.heap.size w w' := by
  obtain ⟨ho, hl⟩ := h.known.each k hk
  have HC := hid (clone9 ho hl hn hb)
  have HL := hid (h.known.out.hit ikey Try.underlying61 (List.mem_map.2 ⟨k, hk, rfl⟩) false)
  have q5 := h.bx.cell 5 rfl
  obtain ⟨kp, ⟨ka, kn, kc⟩, kl⟩ := k
  simp only at HC HL hn hb ⊢
  clear ho hl h hk
  go_enter Try.func8, Try.ntmps8
  go_wp2_with (first | ((with_reducible refine look_arm HL.out ?_ ?_ ?_); (· rfl); (· rfl)) | (go_at_call 26; refine HC.out.mono ?_; rintro e w' ⟨a', c', rfl, ho', hb'⟩; have HO := hid ho'; have HB := hid hb'; clear ho' hb'))
  go_ret
  exact ⟨a', c', rfl, HO.out, HB.out⟩
set_option maxRecDepth 100000 in
set_option maxHeartbeats 4000000 in
theorem telling_not (m : Bm) (p : Int) (c : Cp) (w : World) (hc : c.far) (hF : hasF c = false) :
    Calls Try.prog 27 #[.pointer (some ⟨m.g, 0, none⟩), .int .i64 p, capV c] w fun e w' => e = .returned (.tuple #[.pointer none, .bool false]) ∧ Below w.heap.size w w' := by
  obtain ⟨o, ch, cl⟩ := c
  obtain ⟨W, hW⟩ : ∃ W, W = w.alloc (Obj.cells #[.int .i64 o, .int .u64 (ch : Int), .int .u64 (cl : Int)] 31) := ⟨_, rfl⟩
  have hB : Below w.heap.size w W := by rw [hW]; exact below1 _ _
  have HX0 : Hid (Bx W w.heap.size [.int .i64 o, .int .u64 (ch : Int), .int .u64 (cl : Int)]) := by rw [hW]; exact Bx.new w [.int .i64 o, .int .u64 (ch : Int), .int .u64 (cl : Int)] _
  have c4 := HX0.out.cell 0 rfl
  have c5 := HX0.out.cell 1 rfl
  have c6 := HX0.out.cell 2 rfl
  have HFo := hid (formOf_any ⟨o, ch, cl⟩ hc W)
  have eF : fmR ⟨o, ch, cl⟩ = zF := by unfold fmR; rw [if_neg (by rw [hF]; simp)]
  rw [eF, hF] at HFo
  have HB := hid hB
  have HW := hid hW
  have HFl := hid (show zF.length = 24 from rfl)
  generalize zF = F at HFo HFl
  clear hB hW eF hF hc
  go_enter Try.func27, Try.ntmps27
  go_upto_region 1 with fail
  rw [← HW.out]
  go_upto_region 2 with (first | (go_at_call 44; refine HFo.out.mono ?_; rintro x w2 ⟨rfl, hb2⟩; have HB2 := hid hb2; (have HZx : Hid (Bx (w2.alloc (Obj.cells #[.int .u8 0, .int .u8 0, .int .u8 0, .int .u8 0, .int .u8 0, .int .u8 0, .int .u8 0, .int .u8 0, .int .u8 0, .int .u8 0, .int .u8 0, .int .u8 0, .int .u8 0, .int .u8 0, .int .u8 0, .int .u8 0, .int .u8 0, .int .u8 0, .int .u8 0, .int .u8 0, .int .u8 0, .int .u8 0, .int .u8 0, .int .u8 0] 95)) w2.heap.size (u8s zF)) := Bx.new w2 (u8s zF) _); (have HSt := hid (stFm (L := u8s F) (w := w2.alloc (Obj.cells #[.int .u8 0, .int .u8 0, .int .u8 0, .int .u8 0, .int .u8 0, .int .u8 0, .int .u8 0, .int .u8 0, .int .u8 0, .int .u8 0, .int .u8 0, .int .u8 0, .int .u8 0, .int .u8 0, .int .u8 0, .int .u8 0, .int .u8 0, .int .u8 0, .int .u8 0, .int .u8 0, .int .u8 0, .int .u8 0, .int .u8 0, .int .u8 0] 95)) (b := w2.heap.size) (o := 0) (by have := HZx.out.there; rwa [u8s_length, show zF.length = 24 from rfl] at this) (by rw [u8s_length]; exact HFl.out) (u8s_one F))); clear hb2) | ((with_reducible refine st_arm HSt.out ?_ ?_ ?_); (· rfl); (· rfl)))
  obtain ⟨V2, hV2⟩ : ∃ V, V = (w2.alloc (Obj.cells #[.int .u8 0, .int .u8 0, .int .u8 0, .int .u8 0, .int .u8 0, .int .u8 0, .int .u8 0, .int .u8 0, .int .u8 0, .int .u8 0, .int .u8 0, .int .u8 0, .int .u8 0, .int .u8 0, .int .u8 0, .int .u8 0, .int .u8 0, .int .u8 0, .int .u8 0, .int .u8 0, .int .u8 0, .int .u8 0, .int .u8 0, .int .u8 0] 95)).setCells w2.heap.size 0 (u8s F) := ⟨_, rfl⟩
  rw [← hV2]
  obtain ⟨kf, hkf⟩ : ∃ k, k = w2.heap.size := ⟨_, rfl⟩
  have HBv : Hid (Below w2.heap.size w2 V2) := by rw [hV2]; exact But.below (below1 _ _) (setCells_but (S := (· = w2.heap.size)) rfl (u8s F) 0 (But.refl _ _)) (fun k hk => by omega)
  have HBw : Hid (Below w.heap.size w V2) := below_call HB.out (below_call HB2.out HBv.out)
  clear c4 c5 c6 hV2 hkf HZx HSt HB2 HBv HX0 HFo HW HB
  go_wp2
  exact bodyPost_ret (v := .tuple #[.pointer none, .bool false]) (by simp [results, Try.results27, go_sem]) rfl ⟨rfl, HBw.out⟩
/-- How a process was told a capability. -/
def tgV (B : Bv) (p : Int) (c : Cp) : Option (List Lk) := if hasF c = true then B.told p (frm c) else none
theorem telling_bk (m : Bm) (B : Bv) (p : Int) (c : Cp) (w : World) (h : Bk w m B) (hc : c.far) (hp : I64 p) :
    ∃ a, Tls w a ((tgV B p c).getD []) ∧ (∀ x ∈ (tgV B p c).getD [], lkOk x) ∧ ∀ U, Below w.heap.size w U → Calls Try.prog 27 #[.pointer (some ⟨m.g, 0, none⟩), .int .i64 p, capV c] U fun e w' => e = .returned (.tuple #[.pointer a, .bool (tgV B p c).isSome]) ∧ Below U.heap.size U w' := by
  cases hF : hasF c with
  | false =>
    have e : tgV B p c = none := by unfold tgV; rw [if_neg (by rw [hF]; simp)]
    rw [e]
    exact ⟨none, rfl, fun x hx => (by cases hx), fun U hU => telling_not m p c U hc hF⟩
  | true =>
    have e : tgV B p c = B.told p (frm c) := by unfold tgV; rw [if_pos hF]
    rw [e]
    rcases h.told.look p (frm c) (fun j _ e => fmV_inj e) with ⟨hn, hg⟩ | ⟨a, v, hs, ⟨k, rfl, ht, ho⟩, hg⟩
    · rw [hn]
      exact ⟨none, rfl, fun x hx => (by cases hx), fun U hU => telling_any m p c none U (h.bw.later hU) hc hF hp hg⟩
    · rw [hs]
      exact ⟨some ⟨k, 0, none⟩, ht, ho, fun U hU => telling_any m p c _ U (h.bw.later hU) hc hF hp hg⟩
set_option maxRecDepth 100000 in
set_option maxHeartbeats 2000000 in
theorem told_bk (m : Bm) (B : Bv) (p : Int) (c : Cp) (w : World) (h : Bk w m B) (hc : c.far) (hp : I64 p) :
    Calls Try.prog 16 #[.pointer (some ⟨m.g, 0, none⟩), .int .i64 p, capV c] w fun e w' => e = .returned (.bool (tgV B p c).isSome) ∧ Below w.heap.size w w' := by
  obtain ⟨a, -, -, hT⟩ := telling_bk m B p c w h hc hp
  obtain ⟨W, hW⟩ : ∃ W, W = w.alloc (Obj.cells #[.int .i64 c.o, .int .u64 (c.h : Int), .int .u64 (c.l : Int)] 31) := ⟨_, rfl⟩
  have hB : Below w.heap.size w W := by rw [hW]; exact below1 _ _
  have HX0 : Hid (Bx W w.heap.size [.int .i64 c.o, .int .u64 (c.h : Int), .int .u64 (c.l : Int)]) := by rw [hW]; exact Bx.new w [.int .i64 c.o, .int .u64 (c.h : Int), .int .u64 (c.l : Int)] _
  have c4 := HX0.out.cell 0 rfl
  have c5 := HX0.out.cell 1 rfl
  have c6 := HX0.out.cell 2 rfl
  have HT := hid (hT W hB)
  have HB := hid hB
  have HW := hid hW
  generalize (tgV B p c).isSome = rb at HT ⊢
  clear h hB hW hc hT
  go_enter Try.func16, Try.ntmps16
  go_upto_region 1 with fail
  rw [← HW.out]
  go_wp2_with (first | (go_at_call 27; refine HT.out.mono ?_; rintro e w2 ⟨rfl, hb2⟩; have HB2 := hid hb2; clear hb2))
  go_ret
  exact ⟨rfl, below_call HB.out HB2.out⟩
set_option maxRecDepth 100000 in
set_option maxHeartbeats 2000000 in
theorem way_bk (m : Bm) (B : Bv) (p : Int) (c : Cp) (w : World) (h : Bk w m B) (hc : c.far) (hp : I64 p) (hn : ((tgV B p c).getD []).length < 1000000000) :
    Calls Try.prog 10 #[.pointer (some ⟨m.g, 0, none⟩), .int .i64 p, capV c] w fun e w' => ∃ a' c', e = .returned (.tuple #[.slice a' ((tgV B p c).getD []).length c', .bool (tgV B p c).isSome]) ∧ Ow w' w.heap.size 46 7 a' ((tgV B p c).getD []).length c' (lksL ((tgV B p c).getD []).reverse) ∧ Below w.heap.size w w' := by
  obtain ⟨a, ht, -, hT⟩ := telling_bk m B p c w h hc hp
  obtain ⟨W, hW⟩ : ∃ W, W = w.alloc (Obj.cells #[.int .i64 c.o, .int .u64 (c.h : Int), .int .u64 (c.l : Int)] 31) := ⟨_, rfl⟩
  have hB : Below w.heap.size w W := by rw [hW]; exact below1 _ _
  have HX0 : Hid (Bx W w.heap.size [.int .i64 c.o, .int .u64 (c.h : Int), .int .u64 (c.l : Int)]) := by rw [hW]; exact Bx.new w [.int .i64 c.o, .int .u64 (c.h : Int), .int .u64 (c.l : Int)] _
  have c4 := HX0.out.cell 0 rfl
  have c5 := HX0.out.cell 1 rfl
  have c6 := HX0.out.cell 2 rfl
  have HT := hid (hT W hB)
  generalize (tgV B p c).getD [] = ls at ht hn HT ⊢
  generalize (tgV B p c).isSome = rb at HT ⊢
  have HC := hid (fun (U : World) (hU : Below w.heap.size w U) => chain9 a ls U (ht.later hU) hn)
  have HB := hid hB
  have HW := hid hW
  clear h hB hW hc ht hT
  go_enter Try.func10, Try.ntmps10
  go_upto_region 1 with fail
  rw [← HW.out]
  go_wp2_with (first | (go_at_call 27; refine HT.out.mono ?_; rintro e w2 ⟨rfl, hb2⟩; have HB2 := hid (below_call HB.out hb2); clear hb2) | (go_at_call 28; refine (HC.out _ HB2.out).mono ?_; rintro e w3 ⟨a', c', rfl, ho, hb3⟩; have HO := hid ho; have HB3 := hid (below_call HB2.out hb3); clear ho hb3))
  exact bodyPost_ret (v := .tuple #[.slice a' ls.length c', .bool rb]) (by simp [results, Try.results10, go_sem]) rfl ⟨a', c', rfl, HO.out.mono HB2.out.size, HB3.out⟩
theorem known_bk (m : Bm) (B : Bv) (p : Int) (w : World) (h : Bk w m B) (hp : I64 p) (hn : (B.known p).length ≤ 1000000000) :
    Calls Try.prog 8 #[.pointer (some ⟨m.g, 0, none⟩), .int .i64 p] w fun e w' => ∃ a' c', e = .returned (.slice a' (B.known p).length c') ∧ Ow w' w.heap.size 31 3 a' (B.known p).length c' (capsL (B.known p)) ∧ Below w.heap.size w w' := by
  obtain ⟨s, hs, hf⟩ := h.known.look p
  obtain ⟨hlk, ho, hl⟩ := h.bw.known.look hp hs
  rcases hs with hk | ⟨rfl, he, hno⟩
  · have := known9 m _ w h.bw hk (h.kne _ hk) (by show s.n ≤ _; omega)
    rw [hl]
    exact this
  · rw [he]
    refine (known_none m p w h.bw hp hno).mono ?_
    rintro e w' ⟨rfl, hb⟩
    exact ⟨none, 0, rfl, Ow.nil _ _ _ _, hb⟩
end Go.Proofs.Yticgammbjcdobaa
