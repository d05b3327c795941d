import Derived.Test.YticgammbjcdobaaNG
namespace Go.Proofs.Yticgammbjcdobaa
open Go.RowKit
set_option linter.unusedVariables false
set_option linter.unusedSimpArgs false
abbrev lkV (s kd b t : Int) (c : Cp) : Value := .agg #[.int .i64 s, .int .i64 kd, .int .i64 b, .int .i64 t, .int .i64 c.o, .int .u64 (c.h : Int), .int .u64 (c.l : Int)]
/-- A telling's cells. -/
abbrev tlL (s kd b t : Int) (c : Cp) (ah : Option Addr) : List Value := [.int .i64 s, .int .i64 kd, .int .i64 b, .int .i64 t, .int .i64 c.o, .int .u64 (c.h : Int), .int .u64 (c.l : Int), .pointer ah]
theorem tell_newk (m : Bm) (s0 kd b t : Int) (c : Cp) (ah : Option Addr) (w : World) (h : Bw w m) (hc : c.far) (hF : hasF c = true) (hp : I64 t) (hT : ∀ g ∈ m.T, g.p ≠ t) (hK : ∀ k ∈ m.K, k.p ≠ t) :
    Calls Try.prog 34 #[.pointer (some ⟨m.g, 0, none⟩), lkV s0 kd b t c, .pointer ah] w fun e w' => e = .returned (.tuple #[]) ∧ ∃ kt ki s, w.heap.size ≤ ki ∧ w.heap.size ≤ kt ∧ (s.n = 1 ∧ ∀ j, Blk s.a j → w.heap.size ≤ j) ∧ Bw w' { m with T := m.T ++ [⟨t, ki, [(fmV (frm c), .pointer (some ⟨kt, 0, none⟩))]⟩], K := m.K ++ [⟨t, s, [c]⟩] } ∧ Bx w' kt (tlL m.n kd b t c ah) ∧ w'.heap[kt]? = some (Obj.cells (tlL m.n kd b t c ah).toArray 92) ∧ But (fun j => j = m.bt ∨ j = m.bk) w w' := by
  obtain ⟨o, ch, cl⟩ := c
  have hd := h.dis
  have hbt := h.lo m.bt (by simp [Bm.blks])
  have hbk := h.lo m.bk (by simp [Bm.blks])
  refine (tell_gen m s0 kd b t o ch cl ah w h hc hF hp (fun g hg e => absurd e (hT g hg)) (· = m.bt) (· = m.bk) (fun m1 kt => ∃ ki, w.heap.size ≤ ki ∧ m1 = { m with T := m.T ++ [⟨t, ki, [(fmV (frm ⟨o, ch, cl⟩), .pointer (some ⟨kt, 0, none⟩))]⟩] }) (fun w' kt => ∃ ki s, w.heap.size ≤ ki ∧ (s.n = 1 ∧ ∀ j, Blk s.a j → w.heap.size ≤ j) ∧ Bw w' { m with T := m.T ++ [⟨t, ki, [(fmV (frm ⟨o, ch, cl⟩), .pointer (some ⟨kt, 0, none⟩))]⟩], K := m.K ++ [⟨t, s, [⟨o, ch, cl⟩]⟩] }) ?_ (fun j e => by omega) (fun j e => ⟨by omega, fun e2 => (bk_ne hd).2.2.1 (by omega)⟩) ?_).mono ?_
  · intro U kt hU
    refine (keepF_fresh m.bt m.T t (frm ⟨o, ch, cl⟩) (some ⟨kt, 0, none⟩) U ((h.later hU).told) hp (frm_len _) (frm_sml _) hT).mono ?_
    rintro e w' ⟨rfl, k, hk, hm, hb⟩
    exact ⟨rfl, _, (h.later hU).told_new hk hm hb, ⟨k, Nat.le_trans hU.size hk, rfl⟩, rfl, rfl, hb⟩
  · rintro U m1 kt hUs hB ⟨ki, hki, rfl⟩ hcl
    obtain ⟨l0, a', c', w7, w8, r7, r8, hw8, hb8, hb7, hnw⟩ := hB.known_new hp hK ⟨o, ch, cl⟩
    exact ⟨.slice none 0 0, .slice a' 1 c', w7, w8, fun U' hU' => ((hB.later hU').known_new hp hK ⟨o, ch, cl⟩).1, r7, r8, ⟨ki, ⟨a', 1, c'⟩, hki, ⟨rfl, fun j hj => Nat.le_trans hUs (hnw j hj)⟩, hw8⟩, hb8, But.of hb7⟩
  · rintro e w' ⟨rfl, kt, hkt, ⟨ki, s, hki, hs, hw⟩, hx, hty, hb⟩
    exact ⟨rfl, kt, ki, s, hki, hkt, hs, hw, hx, hty, hb⟩
theorem tell_new (m : Bm) (s0 kd b t : Int) (c : Cp) (ah : Option Addr) (w : World) (h : Bw w m) (hc : c.far) (hF : hasF c = true) (hp : I64 t) (hT : ∀ g ∈ m.T, g.p ≠ t) (hK : ∀ k ∈ m.K, k.p ≠ t) :
    Calls Try.prog 34 #[.pointer (some ⟨m.g, 0, none⟩), lkV s0 kd b t c, .pointer ah] w fun e w' => e = .returned (.tuple #[]) ∧ ∃ kt ki s, w.heap.size ≤ kt ∧ (s.n = 1 ∧ ∀ j, Blk s.a j → w.heap.size ≤ j) ∧ Bw w' { m with T := m.T ++ [⟨t, ki, [(fmV (frm c), .pointer (some ⟨kt, 0, none⟩))]⟩], K := m.K ++ [⟨t, s, [c]⟩] } ∧ Bx w' kt (tlL m.n kd b t c ah) ∧ w'.heap[kt]? = some (Obj.cells (tlL m.n kd b t c ah).toArray 92) ∧ But (fun j => j = m.bt ∨ j = m.bk) w w' := by
  refine (tell_newk m s0 kd b t c ah w h hc hF hp hT hK).mono ?_
  rintro e w' ⟨rfl, kt, ki, s, hki, hkt, hs, hw, hx, hty, hb⟩
  exact ⟨rfl, kt, ki, s, hkt, hs, hw, hx, hty, hb⟩
theorem tell_more (m : Bm) (s0 kd b : Int) (c : Cp) (ah : Option Addr) (w : World) (h : Bw w m) (hc : c.far) (hF : hasF c = true) {T1 T2 : List Im} {g : Im} {K1 K2 : List Kn} {k0 : Kn} (hT : m.T = T1 ++ g :: T2) (hK : m.K = K1 ++ k0 :: K2) (hgk : g.p = k0.p) (hp : I64 k0.p) (hg : ∀ x ∈ g.E, x.1 ≠ fmV (frm c)) (hl : k0.s.n + 1 ≤ 100000) :
    Calls Try.prog 34 #[.pointer (some ⟨m.g, 0, none⟩), lkV s0 kd b k0.p c, .pointer ah] w fun e w' => e = .returned (.tuple #[]) ∧ ∃ kt s, w.heap.size ≤ kt ∧ (s.n = k0.s.n + 1 ∧ ∀ j, Blk s.a j → Blk k0.s.a j ∨ w.heap.size ≤ j) ∧ Bw w' { m with T := T1 ++ ⟨g.p, g.b, g.E ++ [(fmV (frm c), .pointer (some ⟨kt, 0, none⟩))]⟩ :: T2, K := K1 ++ ⟨k0.p, s, k0.l ++ [c]⟩ :: K2 } ∧ Bx w' kt (tlL m.n kd b k0.p c ah) ∧ w'.heap[kt]? = some (Obj.cells (tlL m.n kd b k0.p c ah).toArray 92) ∧ But (fun j => j = g.b ∨ (j = m.bk ∨ Blk k0.s.a j)) w w' := by
  obtain ⟨o, ch, cl⟩ := c
  have hd := h.dis
  have hgm : g ∈ m.T := by rw [hT]; simp
  have hkm : k0 ∈ m.K := by rw [hK]; simp
  have hgb := h.lo g.b (List.mem_append.2 (.inr (List.mem_append.2 (.inl (List.mem_cons_of_mem _ (List.mem_map.2 ⟨g, hgm, rfl⟩))))))
  have hbk := h.lo m.bk (by simp [Bm.blks])
  have hro := (h.known.each k0 hkm).1
  refine (tell_gen m s0 kd b k0.p o ch cl ah w h hc hF hp (fun g' hg' e x hx => by
      have := h.told.same hg' hgm (e.trans hgk.symm)
      subst this
      exact hg x hx) (· = g.b) (fun j => j = m.bk ∨ Blk k0.s.a j) (fun m1 kt => m1 = { m with T := T1 ++ ⟨g.p, g.b, g.E ++ [(fmV (frm ⟨o, ch, cl⟩), .pointer (some ⟨kt, 0, none⟩))]⟩ :: T2 }) (fun w' kt => ∃ s, (s.n = k0.s.n + 1 ∧ ∀ j, Blk s.a j → Blk k0.s.a j ∨ w.heap.size ≤ j) ∧ Bw w' { m with T := T1 ++ ⟨g.p, g.b, g.E ++ [(fmV (frm ⟨o, ch, cl⟩), .pointer (some ⟨kt, 0, none⟩))]⟩ :: T2, K := K1 ++ ⟨k0.p, s, k0.l ++ [⟨o, ch, cl⟩]⟩ :: K2 }) ?_ (fun j e => by omega) (fun j e => ?_) ?_).mono ?_
  · intro U kt hU
    have := keepF_more m.bt m.T T1 T2 g (frm ⟨o, ch, cl⟩) (some ⟨kt, 0, none⟩) U ((h.later hU).told) hT (frm_len _) (frm_sml _) hg
    rw [hgk] at this
    refine this.mono ?_
    rintro e w' ⟨rfl, hm, hb⟩
    rw [← hgk] at hm
    exact ⟨rfl, _, (h.later hU).told_more hT hm hb, rfl, rfl, rfl, hb⟩
  · rcases e with e | e
    · exact ⟨by omega, fun e2 => (bk_ne hd).2.2.1 (by omega)⟩
    · have := hro.blk j e
      exact ⟨this.2, by omega⟩
  · rintro U m1 kt hUs hB rfl hcl
    obtain ⟨l0, a', c', w7, w8, r7, r8, hw8, hb8, hb7, hnw⟩ := hB.known_more hK hl ⟨o, ch, cl⟩
    exact ⟨.slice k0.s.a k0.s.n k0.s.c, .slice a' (k0.s.n + 1) c', w7, w8, fun U' hU' => ((hB.later hU').known_more hK hl ⟨o, ch, cl⟩).1, r7, r8, ⟨⟨a', k0.s.n + 1, c'⟩, ⟨rfl, fun j hj => (hnw j hj).imp id (fun h => Nat.le_trans hUs h)⟩, hw8⟩, hb8, hb7.mono (fun j hj => .inr hj)⟩
  · rintro e w' ⟨rfl, kt, hkt, ⟨s, hs, hw⟩, hx, hty, hb⟩
    exact ⟨rfl, kt, s, hkt, hs, hw, hx, hty, hb⟩
abbrev rpL (cd : Int) (c : Cp) (d : Sl) (nu : Int) : List Value := [.int .i64 cd, .int .i64 c.o, .int .u64 (c.h : Int), .int .u64 (c.l : Int), .slice d.a d.n d.c, .int .i64 nu]
abbrev rpV (cd : Int) (c : Cp) (d : Sl) (nu : Int) : Value := .agg #[.int .i64 cd, .int .i64 c.o, .int .u64 (c.h : Int), .int .u64 (c.l : Int), .slice d.a d.n d.c, .int .i64 nu]
/-- The book behind a token's issue. -/
abbrev Bm.iss (m : Bm) (k : Nat) (c : Cp) (ph pl : Nat) (r : Int) : Bm := { m with L := m.L ++ [⟨c.o, k, [(wdV c.h c.l, Tn.v ⟨c.h, c.l, ph, pl, r, m.n⟩)]⟩] }
set_option maxRecDepth 100000 in
set_option maxHeartbeats 4000000 in
theorem created_gen (m : Bm) (C : List Value) (by_ cd nu : Int) (c : Cp) (d : Sl) (w : World) (h : Bw w m) (hc : c.far) (hC : C.length = 13) (h1 : C[1]? = some (.int .i64 by_)) (hn : ∀ g ∈ m.L, g.p ≠ c.o) (Q : World → Prop)
    (ht : ∀ (U : World) (k : Nat), w.heap.size ≤ k → But (· = m.bl) w U → Bw U (m.iss k c c.h c.l 31) → Calls Try.prog 34 #[.pointer (some ⟨m.g, 0, none⟩), lkV 0 1 by_ by_ c, .pointer none] U fun e w' => e = .returned (.tuple #[]) ∧ Q w') :
    Calls Try.prog 18 #[.pointer (some ⟨m.g, 0, none⟩), .agg C.toArray, rpV cd c d nu] w fun e w' => e = .returned (.tuple #[]) ∧ Q w' := by
  obtain ⟨o, ch, cl⟩ := c
  obtain ⟨W, hW⟩ : ∃ W, W = (w.alloc (Obj.cells C.toArray 36)).alloc (Obj.cells #[.int .i64 cd, .int .i64 o, .int .u64 (ch : Int), .int .u64 (cl : Int), .slice d.a d.n d.c, .int .i64 nu] 39) := ⟨_, rfl⟩
  have hB : Below w.heap.size w W := by rw [hW]; exact below2 _ _ _
  have HX0 : Hid (Bx W w.heap.size C) := by rw [hW]; exact (Bx.new w C _).later (below1 _ _)
  have HX1 : Hid (Bx W (w.heap.size + 1) (rpL cd ⟨o, ch, cl⟩ d nu)) := by rw [hW]; have := Bx.new (w.alloc (Obj.cells C.toArray 36)) (rpL cd ⟨o, ch, cl⟩ d nu) 39; simp at this; exact this
  have y1 := HX1.out.cell 1 rfl
  have y2 := HX1.out.cell 2 rfl
  have y3 := HX1.out.cell 3 rfl
  have HI := hid (issue_new m ⟨o, ch, cl⟩ hc ch cl 31 W (h.later hB) hn)
  have hbl := h.lo m.bl (by simp [Bm.blks])
  have HH := hid h
  have HB := hid hB
  have HW := hid hW
  have HT := hid ht
  have H1 := hid h1
  clear h hB hW ht hn hc h1
  go_enter Try.func18, Try.ntmps18
  go_upto_region 1 with fail
  rw [← HW.out]
  go_upto_region 2 with (first | (go_at_call 33; refine HI.out.mono ?_; rintro x w1 ⟨rfl, k, hk, hw1, hb1⟩; have HK1 := hid hk; have HW1 := hid hw1; have HB1 := hid hb1; clear hk hw1 hb1))
  have HY := hid (HX1.out.but HB1.out (by omega))
  have HX := hid (HX0.out.but HB1.out (by omega))
  clear y1 y2 y3
  have y1 := HY.out.cell 1 rfl
  have y2 := HY.out.cell 2 rfl
  have y3 := HY.out.cell 3 rfl
  have x1 := HX.out.cell 1 H1.out
  have HTe := hid (HT.out w1 k (Nat.le_trans HB.out.size HK1.out) ((But.of HB.out).trans HB1.out) HW1.out)
  go_wp2_with (first | (go_at_call 34; refine HTe.out.mono ?_; rintro x w2 ⟨rfl, hq⟩; have HQ := hid hq; clear hq))
  exact bodyPost_end (v := .tuple #[]) (by simp [results, Try.results18, go_sem]) rfl ⟨rfl, HQ.out⟩
theorem g_ne {m : Bm} (hd : m.blks.Nodup) : (∀ i ∈ m.bl :: m.L.map Im.b, i ≠ m.g) ∧ (∀ i ∈ m.bt :: m.T.map Im.b, i ≠ m.g) ∧ m.bi ≠ m.g ∧ m.bk ≠ m.g ∧ ∀ i ∈ m.ba :: m.A.map Im.b, i ≠ m.g := by
  have h1 := List.nodup_append.1 hd
  have h2 := List.nodup_append.1 h1.2.1
  have h3 := List.nodup_cons.1 h2.2.1
  refine ⟨fun i hi e => h1.2.2 i hi m.g (by simp) e, fun i hi e => h2.2.2 i hi m.g (by simp) e, fun e => h3.1 (by rw [← e]; simp), fun e => h3.1 (by rw [← e]; simp), fun i hi e => h3.1 (by rw [← e]; exact List.mem_cons_of_mem _ (List.mem_cons_of_mem _ hi))⟩
theorem Bw.step {w : World} {m : Bm} (h : Bw w m) (n : Int) : Bw (w.setCell ⟨m.g, 0, none⟩ (.int .i64 n)) { m with n := n } := by
  have hb : But (· = m.g) w (w.setCell ⟨m.g, 0, none⟩ (.int .i64 n)) := (But.refl (· = m.g) w).setCell (p := ⟨m.g, 0, none⟩) rfl _
  obtain ⟨n1, n2, n3, n4, n5⟩ := g_ne h.dis
  exact ⟨h.bx.set1 0 _ (by simp), h.live.but hb n1, h.laid.but hb n5, h.told.but hb n2, h.lists.but hb n3 (fun j hj e => by omega), h.known.but hb n4 (fun j hj e => by omega), h.dis, fun j hj => Nat.lt_of_lt_of_le (h.lo j hj) hb.size, h.ap⟩
set_option maxRecDepth 100000 in
set_option maxHeartbeats 4000000 in
theorem note_create (m : Bm) (C : List Value) (by_ nu : Int) (c : Cp) (d : Sl) (w : World) (h : Bw w m) (hc : c.far) (hC : C.length = 13) (h0 : C[0]? = some (.int .i64 1)) (h1 : C[1]? = some (.int .i64 by_)) (hn : ∀ g ∈ m.L, g.p ≠ c.o) (hnn : 0 ≤ m.n ∧ m.n < 1000000) (Q : World → Prop)
    (ht : ∀ (V U : World) (k : Nat), w.heap.size ≤ k → But (· = m.g) w V → But (· = m.bl) V U → Bw U (Bm.iss { m with n := m.n + 1 } k c c.h c.l 31) → Calls Try.prog 34 #[.pointer (some ⟨m.g, 0, none⟩), lkV 0 1 by_ by_ c, .pointer none] U fun e w' => e = .returned (.tuple #[]) ∧ Q w') :
    Calls Try.prog 7 #[.pointer (some ⟨m.g, 0, none⟩), .agg C.toArray, rpV 0 c d nu] w fun e w' => e = .returned (.tuple #[]) ∧ Q w' := by
  obtain ⟨o, ch, cl⟩ := c
  obtain ⟨W, hW⟩ : ∃ W, W = (w.alloc (Obj.cells C.toArray 36)).alloc (Obj.cells #[.int .i64 0, .int .i64 o, .int .u64 (ch : Int), .int .u64 (cl : Int), .slice d.a d.n d.c, .int .i64 nu] 39) := ⟨_, rfl⟩
  have hB : Below w.heap.size w W := by rw [hW]; exact below2 _ _ _
  have HX0 : Hid (Bx W w.heap.size C) := by rw [hW]; exact (Bx.new w C _).later (below1 _ _)
  have HX1 : Hid (Bx W (w.heap.size + 1) (rpL 0 ⟨o, ch, cl⟩ d nu)) := by rw [hW]; have := Bx.new (w.alloc (Obj.cells C.toArray 36)) (rpL 0 ⟨o, ch, cl⟩ d nu) 39; simp at this; exact this
  have hBW := h.later hB
  have q0 := hBW.bx.cell 0 rfl
  have q0f : W.frozen? ⟨m.g, 0, none⟩ = false := by have := (hBW.bx.there 0 (by simp)).2; rwa [Nat.zero_add] at this
  have ew : IntKind.i64.wrap (m.n + 1) = m.n + 1 := by rw [IntKind.wrap_i64]; omega
  have hgl := h.lo m.g (by simp [Bm.blks])
  have HBW := hid hBW
  have HB := hid hB
  have HW := hid hW
  have HT := hid ht
  have H0 := hid h0
  have H1 := hid h1
  have HCn := hid hC
  have HN := hid hn
  have HC := hid hc
  clear hBW h hB hW ht hn hc h0 h1 hC
  go_enter Try.func7, Try.ntmps7
  go_upto_region 1 with fail
  rw [← HW.out]
  go_upto_region 2 with fail
  obtain ⟨U, hU⟩ : ∃ U, U = W.setCell ⟨m.g, 0, none⟩ (.int .i64 (m.n + 1)) := ⟨_, rfl⟩
  rw [← hU]
  have HBu : Hid (But (· = m.g) W U) := by rw [hU]; exact (But.refl (· = m.g) W).setCell (p := ⟨m.g, 0, none⟩) rfl _
  have HBm : Hid (Bw U { m with n := m.n + 1 }) := by rw [hU]; exact HBW.out.step _
  have HY := hid (HX1.out.but HBu.out (by omega))
  have HX := hid (HX0.out.but HBu.out (by omega))
  clear q0 q0f hU
  have y0 := HY.out.cell 0 rfl
  have x0 := HX.out.cell 0 H0.out
  have HLC : Hid ((Instr.loadAt 36 (.pointer (some ⟨w.heap.size, 0, none⟩))).run Try.prog U = .ok (.agg C.toArray) U) := run_loadAt_mid U w.heap.size 0 36 C _ HX.out.range Try.underlying36 rfl (by rw [HCn.out]; kernel_rfl)
  have HLR : Hid ((Instr.loadAt 39 (.pointer (some ⟨w.heap.size + 1, 0, none⟩))).run Try.prog U = .ok (rpV 0 ⟨o, ch, cl⟩ d nu) U) := run_loadAt_mid U (w.heap.size + 1) 0 39 (rpL 0 ⟨o, ch, cl⟩ d nu) _ HY.out.range Try.underlying39 rfl (by kernel_rfl)
  have HCr := hid (created_gen { m with n := m.n + 1 } C by_ 0 nu ⟨o, ch, cl⟩ d U HBm.out HC.out HCn.out H1.out HN.out Q (fun U' k hk hb hbw => HT.out U U' k (Nat.le_trans (Nat.le_trans HB.out.size HBu.out.size) hk) ((But.of HB.out).trans HBu.out) hb hbw))
  go_wp2_with (first | ((with_reducible refine ld_arm HLC.out ?_ ?_); (· rfl)) | ((with_reducible refine ld_arm HLR.out ?_ ?_); (· rfl)) | (go_at_call 18; refine HCr.out.mono ?_; rintro x w2 ⟨rfl, hq⟩; have HQ := hid hq; clear hq))
  exact bodyPost_end (v := .tuple #[]) (by simp [results, Try.results7, go_sem]) rfl ⟨rfl, HQ.out⟩
abbrev m0 (s : Nat) : Bm := ⟨s + 5, s, s + 1, s + 2, s + 3, s + 4, 0, [], [], [], [], []⟩
def mp0 : Obj := .map #[] 0
theorem new_bw (w : World) : Bw ((((((w.alloc mp0).alloc mp0).alloc mp0).alloc mp0).alloc mp0).alloc (Obj.cells #[.int .i64 0, .map (some w.heap.size), .map (some (w.heap.size + 1)), .map (some (w.heap.size + 2)), .map (some (w.heap.size + 3)), .map (some (w.heap.size + 4))] 65)) (m0 w.heap.size) := by
  obtain ⟨w1, h1⟩ : ∃ U, U = w.alloc mp0 := ⟨_, rfl⟩
  obtain ⟨w2, h2⟩ : ∃ U, U = w1.alloc mp0 := ⟨_, rfl⟩
  obtain ⟨w3, h3⟩ : ∃ U, U = w2.alloc mp0 := ⟨_, rfl⟩
  obtain ⟨w4, h4⟩ : ∃ U, U = w3.alloc mp0 := ⟨_, rfl⟩
  obtain ⟨w5, h5⟩ : ∃ U, U = w4.alloc mp0 := ⟨_, rfl⟩
  have z1 : w1.heap.size = w.heap.size + 1 := by rw [h1]; simp
  have z2 : w2.heap.size = w.heap.size + 2 := by rw [h2]; simp [z1]
  have z3 : w3.heap.size = w.heap.size + 3 := by rw [h3]; simp [z2]
  have z4 : w4.heap.size = w.heap.size + 4 := by rw [h4]; simp [z3]
  have z5 : w5.heap.size = w.heap.size + 5 := by rw [h5]; simp [z4]
  have b2 : Below w1.heap.size w1 w2 := by rw [h2]; exact below1 _ _
  have b3 : Below w2.heap.size w2 w3 := by rw [h3]; exact below1 _ _
  have b4 : Below w3.heap.size w3 w4 := by rw [h4]; exact below1 _ _
  have b5 : Below w4.heap.size w4 w5 := by rw [h5]; exact below1 _ _
  rw [← h1, ← h2, ← h3, ← h4, ← h5]
  obtain ⟨W, hW⟩ : ∃ U, U = w5.alloc (Obj.cells #[.int .i64 0, .map (some w.heap.size), .map (some (w.heap.size + 1)), .map (some (w.heap.size + 2)), .map (some (w.heap.size + 3)), .map (some (w.heap.size + 4))] 65) := ⟨_, rfl⟩
  have b6 : Below w5.heap.size w5 W := by rw [hW]; exact below1 _ _
  have c5 : Below w4.heap.size w4 W := below_call b5 b6
  have c4 : Below w3.heap.size w3 W := below_call b4 c5
  have c3 : Below w2.heap.size w2 W := below_call b3 c4
  have c2 : Below w1.heap.size w1 W := below_call b2 c3
  rw [← hW]
  have hbx : Bx W (w.heap.size + 5) (m0 w.heap.size).cells := by
    have := Bx.new w5 (m0 w.heap.size).cells 65
    rw [z5] at this
    rw [hW]
    exact this
  have g1 : Mm W 29 w.heap.size [] := by have := Mm.new w 29; rw [show w.alloc (.map #[] 0) = w1 from h1.symm] at this; exact this.later c2
  have g2 : Mc W (w.heap.size + 6) (w.heap.size + 1) [] := by have := Mc.new w1 (w.heap.size + 6); rw [show w1.alloc (.map #[] 0) = w2 from h2.symm, z1] at this; exact this.later c3
  have g3 : Mm W 3 (w.heap.size + 2) [] := by have := Mm.new w2 3; rw [show w2.alloc (.map #[] 0) = w3 from h3.symm, z2] at this; exact this.later c4
  have g4 : Mm W 95 (w.heap.size + 3) [] := by have := Mm.new w3 95; rw [show w3.alloc (.map #[] 0) = w4 from h4.symm, z3] at this; exact this.later c5
  have g5 : Mc W (w.heap.size + 6) (w.heap.size + 4) [] := by have := Mc.new w4 (w.heap.size + 6); rw [show w4.alloc (.map #[] 0) = w5 from h5.symm, z4] at this; exact this.later b6
  have zW : W.heap.size = w.heap.size + 6 := by rw [hW]; simp [z5]
  refine ⟨hbx, g1, g3, g4, g2, g5, ?_, ?_, fun x hx => by cases hx⟩
  · simp [Bm.blks]
  · intro j hj
    simp [Bm.blks] at hj
    omega
set_option maxRecDepth 100000 in
set_option maxHeartbeats 2000000 in
theorem new_any (w : World) : Calls Try.prog 5 #[] w fun e w' => e = .returned (.pointer (some ⟨w.heap.size + 5, 0, none⟩)) ∧ Bw w' (m0 w.heap.size) ∧ Below w.heap.size w w' := by
  have k1 := fun U => run_mkMap (t := 60) Try.underlying60 U
  have k2 := fun U => run_mkMap (t := 61) Try.underlying61 U
  have k3 := fun U => run_mkMap (t := 62) Try.underlying62 U
  have k4 := fun U => run_mkMap (t := 63) Try.underlying63 U
  go_enter Try.func5, Try.ntmps5
  go_wp2
  go_ret
  refine ⟨rfl, new_bw w, ?_⟩
  exact ((((((Below.refl _ _).alloc (Nat.le_refl _) _).alloc (by simp) _).alloc (by simp; omega) _).alloc (by simp; omega) _).alloc (by simp; omega) _).alloc (by simp; omega) _
theorem Ow.some_of {w : World} {base : Nat} {e : TypeId} {k : Nat} {a : Option Addr} {n cap : Nat} {L : List Value} (h : Ow w base e k a n cap L) (hn : 0 < n) : ∃ g, a = some ⟨g, 0, none⟩ := by
  rcases h.2 with ⟨h1, h2⟩ | ⟨g, cp, cur, hv, hg, hh, r⟩
  · omega
  · simp only [Value.slice.injEq] at hv
    exact ⟨g, hv.1⟩
theorem Ow.cells {w : World} {base : Nat} {e : TypeId} {k : Nat} {a : Option Addr} {n cap : Nat} {L : List Value} (h : Ow w base e k a n cap L) {g : Nat} (ha : a = some ⟨g, 0, none⟩) : w.rangeAt g 0 L := fun j v hv => by
  rcases h.2 with ⟨h1, h2⟩ | ⟨g', cp, cur, hv2, hg, hh, r⟩
  · simp only [Value.slice.injEq] at h1
    rw [ha] at h1
    exact absurd h1.1 (by simp)
  · have h' : w.ownsRow base e k (.slice a n cap) n L := h
    simp only [Value.slice.injEq] at hv2
    obtain ⟨e1, -, e3⟩ := hv2
    rw [ha] at e1
    have e2 : g = g' := by simpa using e1
    subst e2
    subst ha
    have := h'.cells (g := g) rfl j v hv
    rw [addr_add0] at this
    rw [Nat.zero_add]
    exact this
theorem caps_one (l : List Cp) : ∀ u ∈ capsL l, u.oneCell' = true := by
  intro u hu
  simp only [capsL, List.mem_flatten, List.mem_map] at hu
  obtain ⟨x, ⟨c, _, rfl⟩, hu⟩ := hu
  exact one3 _ _ _ u hu
theorem capsL_len (l : List Cp) : (capsL l).length = l.length * 3 := by
  induction l with
  | nil => rfl
  | cons c l ih => simp only [capsL, List.map_cons, List.flatten_cons, List.length_append] at *; rw [ih]; simp [encC]; omega
theorem nilC (x : Addr) (n c : Nat) (w : World) : (binOp .eql 26 (.slice (some x) n c) (.slice none 0 0)).run Try.prog w = .ok (.bool false) w := by kernel_rfl
/-- A list of capabilities copied into new memory. -/
theorem caps_copy {w : World} {base : Nat} {a : Option Addr} {n c : Nat} {l : List Cp} (h : Ow w base 31 3 a n c (capsL l)) (hl : l.length = n) (hn : 0 < n) (hb : n ≤ 100000) :
    ∃ a' c' w', (Builtin.append_ #[26, 26] 26 #[.slice (some ⟨w.heap.size, 0, none⟩) 0 0, .slice a n c]).run Try.prog (w.alloc (Obj.cells #[] 31)) = .ok (.slice a' n c') w' ∧ Ow w' w.heap.size 31 3 a' n c' (capsL l) ∧ Below w.heap.size w w' := by
  obtain ⟨g, hg⟩ := h.some_of hn
  have hb1 := below1 w (Obj.cells #[] 31)
  obtain ⟨i, hi, hz0, hz1, hz2⟩ := info_parts infoC3
  have ho : (w.alloc (Obj.cells #[] 31)).ownsRow w.heap.size 31 3 (.slice (some ⟨w.heap.size, 0, none⟩) 0 0) 0 [] := ⟨by simp, .inr ⟨w.heap.size, 0, #[], rfl, Nat.le_refl _, Array.getElem?_push_size, Nat.le_refl _, Nat.zero_le _, by simp, by simp⟩⟩
  have hcell := (h.later hb1).cells hg
  obtain ⟨v', w', hr, h2, h3, _, h5⟩ := run_append_own_at (P := Try.prog) (w.alloc (Obj.cells #[] 31)) w.heap.size 26 26 31 i _ 3 24 Try.underlying26 hi hz0 hz1 hz2 rfl (by omega) _ 0 _ ho ⟨g, 0, none⟩ n c (capsL l) (by rw [capsL_len, hl]) (fun j u hu => by
    rw [addr_add0]
    have := hcell j u hu
    rw [Nat.zero_add] at this
    exact this) (caps_one l) (by unfold maxLen; omega) (by omega) (by simp)
  simp only [Nat.zero_add, List.nil_append] at h2
  obtain ⟨a', c', rfl⟩ : ∃ a' c', v' = .slice a' n c' := by
    rcases h2.2 with ⟨h, h'⟩ | ⟨g', cap', _, h, _⟩
    · exact ⟨.none, 0, by rw [h, h']⟩
    · exact ⟨_, cap', h⟩
  refine ⟨a', c', w', by rw [hg]; exact hr, h2, ?_⟩
  have hbut : But (Blk (some ⟨w.heap.size, 0, none⟩)) (w.alloc (Obj.cells #[] 31)) w' := ⟨h3.os, h3.tape, h3.output, h3.size, fun j hj hn => h3.block j hj (fun e => hn (Blk.of.1 e.symm))⟩
  exact But.below hb1 hbut (fun k hk => by obtain ⟨x, hx, e⟩ := hk; cases hx; simp at e; omega)
set_option maxRecDepth 100000 in
set_option maxHeartbeats 2000000 in
theorem clone_any {w : World} {base : Nat} {a : Option Addr} {n c : Nat} {l : List Cp} (h : Ow w base 31 3 a n c (capsL l)) (hl : l.length = n) (hn : 0 < n) (hb : n ≤ 100000) :
    Calls Try.prog 26 #[.slice a n c] w fun e w' => ∃ a' c', e = .returned (.slice a' n c') ∧ Ow w' w.heap.size 31 3 a' n c' (capsL l) ∧ Below w.heap.size w w' := by
  obtain ⟨g, rfl⟩ := h.some_of hn
  obtain ⟨a', c', w', hr, ho, hbe⟩ := caps_copy h hl hn hb
  have HR := hid hr
  have HO := hid ho
  have HB := hid hbe
  have hnil := nilC ⟨g, 0, none⟩ n c w
  clear hr ho hbe h
  go_enter Try.func26, Try.ntmps26
  go_wp2_with (first | (at_builtin; refine wpList_append_known rfl _ _ 26 rfl _ _ rfl rfl _ w' HR.out ?_))
  go_ret
  exact ⟨a', c', rfl, HO.out, HB.out⟩
set_option maxRecDepth 100000 in
set_option maxHeartbeats 2000000 in
theorem known_hit (m : Bm) (k : Kn) (w : World) (h : Bw w m) (hk : k ∈ m.K) (hn : 0 < k.s.n) (hb : k.s.n ≤ 100000) :
    Calls Try.prog 8 #[.pointer (some ⟨m.g, 0, none⟩), .int .i64 k.p] w fun e w' => ∃ a' c', e = .returned (.slice a' k.s.n c') ∧ Ow w' w.heap.size 31 3 a' k.s.n c' (capsL k.l) ∧ Below w.heap.size w w' := by
  obtain ⟨ho, hl⟩ := h.known.each k hk
  have HC := hid (clone_any ho hl hn hb)
  have HL := hid (h.known.out.hit ikey Try.underlying61 (List.mem_map.2 ⟨k, hk, rfl⟩) false)
  have q5 := h.bx.cell 5 rfl
  obtain ⟨kp, ⟨ka, kn, kc⟩, kl⟩ := k
  simp only at HC HL hn hb ⊢
  clear ho hl h hk
  go_enter Try.func8, Try.ntmps8
  go_wp2_with (first | ((with_reducible refine look_arm HL.out ?_ ?_ ?_); (· rfl); (· rfl)) | (go_at_call 26; refine HC.out.mono ?_; rintro e w' ⟨a', c', rfl, ho', hb'⟩; have HO := hid ho'; have HB := hid hb'; clear ho' hb'))
  go_ret
  exact ⟨a', c', rfl, HO.out, HB.out⟩
end Go.Proofs.Yticgammbjcdobaa
