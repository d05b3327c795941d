import Derived.Test.YticgammbjcdobaaQA
namespace Go.Proofs.Yticgammbjcdobaa
open Go.RowKit
set_option linter.unusedVariables false
set_option linter.unusedSimpArgs false
theorem zLaid (w : World) : (zeroValue 93).run Try.prog w = .ok (.map none) w := by kernel_rfl
theorem nilI (w : World) : (binOp .eql 93 (.map none) (.map none)).run Try.prog w = .ok (.bool true) w := by kernel_rfl
theorem nilI' (b : Nat) (w : World) : (binOp .eql 93 (.map (some b)) (.map none)).run Try.prog w = .ok (.bool false) w := by kernel_rfl
/-- What a keep leaves behind. -/
def Kept (ti : TypeId) (w w' : World) (b : Nat) (G : List Im) (p : Int) (k v : Value) : Prop :=
  ∃ G', Mm w' ti b G' ∧ (∀ g ∈ G', g.b ∈ G.map Im.b ∨ w.heap.size ≤ g.b) ∧ (∀ q x, In G' q x ↔ (q = p ∧ x = (k, v)) ∨ (In G q x ∧ ¬ (q = p ∧ x.1 = k))) ∧ But (fun j => j ∈ blG b G) w w' ∧ ∀ x ∈ G', x.E.length ≤ 1 ∨ ∃ y ∈ G, x.E.length ≤ y.E.length + 1
theorem Kept.fresh {ti : TypeId} {w w' : World} {b : Nat} {G : List Im} {p : Int} {k v : Value} {n : Nat} (hn : ∀ g ∈ G, g.p ≠ p) (hk : w.heap.size ≤ n) (hm : Mm w' ti b (G ++ [⟨p, n, [(k, v)]⟩])) (hb : But (· = b) w w') : Kept ti w w' b G p k v := by
  refine ⟨_, hm, fun g hg => ?_, fun q x => ⟨?_, ?_⟩, hb.mono (fun j e => by subst e; exact List.mem_cons_self), fun x hx => ?_⟩
  · rcases List.mem_append.1 hg with hg | hg
    · exact .inl (List.mem_map.2 ⟨g, hg, rfl⟩)
    · rw [List.mem_singleton.1 hg]
      exact .inr hk
  · rintro ⟨g, hg, e, hx⟩
    rcases List.mem_append.1 hg with hg | hg
    · exact .inr ⟨⟨g, hg, e, hx⟩, fun h => hn g hg (e.trans h.1)⟩
    · rw [List.mem_singleton.1 hg] at e hx
      simp at hx
      exact .inl ⟨e.symm, hx⟩
  · rintro (⟨rfl, rfl⟩ | ⟨⟨g, hg, e, hx⟩, -⟩)
    · exact ⟨_, List.mem_append.2 (.inr (List.mem_singleton.2 rfl)), rfl, by simp⟩
    · exact ⟨g, List.mem_append.2 (.inl hg), e, hx⟩
  · rcases List.mem_append.1 hx with hx | hx
    · exact .inr ⟨x, hx, by omega⟩
    · rw [List.mem_singleton.1 hx]
      exact .inl (Nat.le_refl _)
theorem Kept.there {ti : TypeId} {w W w' : World} {b : Nat} {G G' : List Im} {g : Im} {k v : Value} (hB : Below w.heap.size w W) (hg : g ∈ G) (hm : Mm w' ti b G') (he : G'.map Im.b = G.map Im.b) (hin : ∀ p x, In G' p x ↔ (p = g.p ∧ x = (k, v)) ∨ (In G p x ∧ ¬ (p = g.p ∧ x.1 = k))) (hb : But (· = g.b) W w') (hz : ∀ x ∈ G', ∃ y ∈ G, x.E.length ≤ y.E.length + 1) : Kept ti w w' b G g.p k v :=
  ⟨G', hm, fun x hx => .inl (by rw [← he]; exact List.mem_map.2 ⟨x, hx, rfl⟩), hin, ((But.of hB).trans hb).mono (fun j e => by subst e; exact List.mem_cons_of_mem _ (List.mem_map.2 ⟨g, hg, rfl⟩)), fun x hx => .inr (hz x hx)⟩
set_option maxRecDepth 100000 in
set_option maxHeartbeats 2000000 in
theorem keepF_there (b : Nat) (G : List Im) (g : Im) (F : List Nat) (v : Option Addr) (hl : F.length = 24) (hs : ∀ x ∈ F, x < 256) (w : World) (h : Mm w 95 b G) (hg : g ∈ G) :
    Calls Try.prog 47 #[.map (some b), .int .i64 g.p, fmV F, .pointer v] w fun e w' => e = .returned (.tuple #[]) ∧ Kept 95 w w' b G g.p (fmV F) (.pointer v) := by
  obtain ⟨W, hW⟩ : ∃ W, W = w.alloc (Obj.cells (u8s F).toArray 95) := ⟨_, rfl⟩
  have hB : Below w.heap.size w W := by rw [hW]; exact below1 _ _
  have r1 : (Instr.lookup 63 (.map (some b)) (.int .i64 g.p) false).run Try.prog W = .ok (.map (some g.b)) W := (h.later hB).out.hit ikey Try.underlying63 (List.mem_map.2 ⟨g, hg, rfl⟩) false
  obtain ⟨w2, G', r2, m2, e2, hin, b2, hz2⟩ := (h.later hB).put fkey Try.underlying109 hg (kform hl hs) (.pointer v)
  have HLD : Hid ((Instr.loadAt 95 (.pointer (some ⟨w.heap.size, 0, none⟩))).run Try.prog W = .ok (fmV F) W) := by rw [hW]; exact ldFm (rangeAt_new w (u8s F) _) (by rw [u8s_length]; exact hl)
  have HR1 := hid r1
  have HR2 := hid r2
  have HM : Hid (Kept 95 w w2 b G g.p (fmV F) (.pointer v)) := Kept.there hB hg m2 e2 hin b2 hz2
  have HW := hid hW
  obtain ⟨gp, gb, gE⟩ := g
  simp only at HR1 HR2 HM ⊢
  have hnil := nilT' gb W
  clear r1 r2 m2 b2 hW hB h hg e2 hin hz2 hs
  go_enter Try.func47, Try.ntmps47
  go_upto_region 1 with fail
  rw [← HW.out]
  go_wp2_with (first | ((with_reducible refine look_arm HR1.out ?_ ?_ ?_); (· rfl); (· rfl)) | ((with_reducible refine ld_arm HLD.out ?_ ?_); (· rfl)) | ((with_reducible refine upd_arm HR2.out ?_ ?_ ?_ ?_); (· rfl); (· rfl); (· rfl)))
  exact bodyPost_end (v := .tuple #[]) (by simp [results, Try.results47, go_sem]) rfl ⟨rfl, HM.out⟩
set_option maxRecDepth 100000 in
set_option maxHeartbeats 2000000 in
theorem keepW_there (b : Nat) (G : List Im) (g : Im) (hi lo : Nat) (t : Tn) (h1 : U64 hi) (h2 : U64 lo) (w : World) (h : Mm w 29 b G) (hg : g ∈ G) :
    Calls Try.prog 46 #[.map (some b), .int .i64 g.p, wdV hi lo, t.v] w fun e w' => e = .returned (.tuple #[]) ∧ Kept 29 w w' b G g.p (wdV hi lo) (t.v) := by
  obtain ⟨W, hW⟩ : ∃ W, W = (w.alloc (Obj.cells #[.int .u64 (hi : Int), .int .u64 (lo : Int)] 29)).alloc (Obj.cells #[.int .u64 (t.h : Int), .int .u64 (t.l : Int), .int .u64 (t.ph : Int), .int .u64 (t.pl : Int), .int .i64 t.r, .int .i64 t.s] 77) := ⟨_, rfl⟩
  have hB : Below w.heap.size w W := by rw [hW]; exact below2 _ _ _
  have r1 : (Instr.lookup 60 (.map (some b)) (.int .i64 g.p) false).run Try.prog W = .ok (.map (some g.b)) W := (h.later hB).out.hit ikey Try.underlying60 (List.mem_map.2 ⟨g, hg, rfl⟩) false
  obtain ⟨w2, G', r2, m2, e2, hin, b2, hz2⟩ := (h.later hB).put wkey Try.underlying82 hg (kword h1 h2) (t.v)
  have HLD : Hid ((Instr.loadAt 29 (.pointer (some ⟨w.heap.size, 0, none⟩))).run Try.prog W = .ok (wdV hi lo) W) := by
    have hx : Bx W w.heap.size [.int .u64 (hi : Int), .int .u64 (lo : Int)] := by rw [hW]; exact (Bx.new w [.int .u64 (hi : Int), .int .u64 (lo : Int)] _).later (below1 _ _)
    exact ldWd hx.range rfl
  have HLT : Hid ((Instr.loadAt 77 (.pointer (some ⟨w.heap.size + 1, 0, none⟩))).run Try.prog W = .ok t.v W) := by
    have hx : Bx W (w.heap.size + 1) t.L := by rw [hW]; have := Bx.new (w.alloc (Obj.cells #[.int .u64 (hi : Int), .int .u64 (lo : Int)] 29)) t.L 77; simp at this; exact this
    exact ldTn hx.range rfl
  have HR1 := hid r1
  have HR2 := hid r2
  have HM : Hid (Kept 29 w w2 b G g.p (wdV hi lo) (t.v)) := Kept.there hB hg m2 e2 hin b2 hz2
  have HW := hid hW
  obtain ⟨gp, gb, gE⟩ := g
  simp only at HR1 HR2 HM ⊢
  have hnil := nilL' gb W
  clear r1 r2 m2 b2 hW hB h hg e2 hin hz2 h1 h2
  go_enter Try.func46, Try.ntmps46
  go_upto_region 1 with fail
  rw [← HW.out]
  go_wp2_with (first | ((with_reducible refine look_arm HR1.out ?_ ?_ ?_); (· rfl); (· rfl)) | ((with_reducible refine ld_arm HLD.out ?_ ?_); (· rfl)) | ((with_reducible refine ld_arm HLT.out ?_ ?_); (· rfl)) | ((with_reducible refine upd_arm HR2.out ?_ ?_ ?_ ?_); (· rfl); (· rfl); (· rfl)))
  exact bodyPost_end (v := .tuple #[]) (by simp [results, Try.results46, go_sem]) rfl ⟨rfl, HM.out⟩
set_option maxRecDepth 100000 in
set_option maxHeartbeats 2000000 in
theorem keepI_there (b : Nat) (G : List Im) (g : Im) (i : Int) (v : Option Addr) (hi : I64 i) (w : World) (h : Mm w 3 b G) (hg : g ∈ G) :
    Calls Try.prog 41 #[.map (some b), .int .i64 g.p, .int .i64 i, .pointer v] w fun e w' => e = .returned (.tuple #[]) ∧ Kept 3 w w' b G g.p (.int .i64 i) (.pointer v) := by
  obtain ⟨W, hW⟩ : ∃ W, W = w := ⟨_, rfl⟩
  have hB : Below w.heap.size w W := by rw [hW]; exact Below.refl _ _
  have r1 : (Instr.lookup 62 (.map (some b)) (.int .i64 g.p) false).run Try.prog W = .ok (.map (some g.b)) W := (h.later hB).out.hit ikey Try.underlying62 (List.mem_map.2 ⟨g, hg, rfl⟩) false
  obtain ⟨w2, G', r2, m2, e2, hin, b2, hz2⟩ := (h.later hB).put ikey Try.underlying93 hg (kint hi) (.pointer v)
  have HR1 := hid r1
  have HR2 := hid r2
  have HM : Hid (Kept 3 w w2 b G g.p (.int .i64 i) (.pointer v)) := Kept.there hB hg m2 e2 hin b2 hz2
  have HW := hid hW
  obtain ⟨gp, gb, gE⟩ := g
  simp only at HR1 HR2 HM ⊢
  have hnil := nilI' gb W
  clear r1 r2 m2 b2 hW hB h hg e2 hin hz2 hi
  go_enter Try.func41, Try.ntmps41
  have hWw := HW.out
  subst hWw
  go_wp2_with (first | ((with_reducible refine look_arm HR1.out ?_ ?_ ?_); (· rfl); (· rfl)) | ((with_reducible refine upd_arm HR2.out ?_ ?_ ?_ ?_); (· rfl); (· rfl); (· rfl)))
  exact bodyPost_end (v := .tuple #[]) (by simp [results, Try.results41, go_sem]) rfl ⟨rfl, HM.out⟩
set_option maxRecDepth 100000 in
set_option maxHeartbeats 2000000 in
theorem keepI_fresh (b : Nat) (G : List Im) (p i : Int) (v : Option Addr) (w : World) (h : Mm w 3 b G) (hp : I64 p) (hi : I64 i) (hn : ∀ g ∈ G, g.p ≠ p) :
    Calls Try.prog 41 #[.map (some b), .int .i64 p, .int .i64 i, .pointer v] w fun e w' => e = .returned (.tuple #[]) ∧ ∃ k, w.heap.size ≤ k ∧ Mm w' 3 b (G ++ [⟨p, k, [(.int .i64 i, .pointer v)]⟩]) ∧ But (· = b) w w' := by
  obtain ⟨m, hm, h0, -⟩ := h.look ikey Try.underlying62 Try.underlying93 zLaid zPtr hp (kint hi) (r := none) (fun g hg e => absurd e (hn g hg))
  obtain rfl : m = none := by
    cases m with
    | none => rfl
    | some k => obtain ⟨g, hg, e, _⟩ := hm; exact absurd e (hn g hg)
  obtain ⟨w1, w2, r1, r2, r3, m2, b2, s1, b1⟩ := h.fresh ikey Try.underlying62 Try.underlying93 hp hn (kint hi) (.pointer v)
  have H0 := hid h0
  have HR1 := hid r1
  have HR2 := hid r2
  have HR3 := hid r3
  have HM := hid m2
  have HBt := hid b2
  have hmk := run_mkMap Try.underlying93 w
  have hnil := nilI w
  clear h0 r1 r2 r3 m2 b2 s1 b1 h hn hm
  go_enter Try.func41, Try.ntmps41
  go_wp2_with (first | ((with_reducible refine look_arm H0.out ?_ ?_ ?_); (· rfl); (· rfl)) | ((with_reducible refine upd_arm HR1.out ?_ ?_ ?_ ?_); (· rfl); (· rfl); (· rfl)) | ((with_reducible refine look_arm HR2.out ?_ ?_ ?_); (· rfl); (· rfl)) | ((with_reducible refine upd_arm HR3.out ?_ ?_ ?_ ?_); (· rfl); (· rfl); (· rfl)))
  exact bodyPost_end (v := .tuple #[]) (by simp [results, Try.results41, go_sem]) rfl ⟨rfl, _, Nat.le_refl _, HM.out, HBt.out⟩
theorem keepF_any (b : Nat) (G : List Im) (p : Int) (F : List Nat) (v : Option Addr) (hl : F.length = 24) (hs : ∀ x ∈ F, x < 256) (w : World) (h : Mm w 95 b G) (hp : I64 p) :
    Calls Try.prog 47 #[.map (some b), .int .i64 p, fmV F, .pointer v] w fun e w' => e = .returned (.tuple #[]) ∧ Kept 95 w w' b G p (fmV F) (.pointer v) := by
  by_cases hx : ∃ g ∈ G, g.p = p
  · obtain ⟨g, hg, rfl⟩ := hx
    exact keepF_there b G g F v hl hs w h hg
  · have hn : ∀ g ∈ G, g.p ≠ p := fun g hg e => hx ⟨g, hg, e⟩
    refine (keepF_fresh b G p F v w h hp hl hs hn).mono ?_
    rintro e w' ⟨rfl, k, hk, hm, hb⟩
    exact ⟨rfl, Kept.fresh hn hk hm hb⟩
theorem keepW_any (b : Nat) (G : List Im) (p : Int) (hi lo : Nat) (t : Tn) (h1 : U64 hi) (h2 : U64 lo) (w : World) (h : Mm w 29 b G) (hp : I64 p) :
    Calls Try.prog 46 #[.map (some b), .int .i64 p, wdV hi lo, t.v] w fun e w' => e = .returned (.tuple #[]) ∧ Kept 29 w w' b G p (wdV hi lo) (t.v) := by
  by_cases hx : ∃ g ∈ G, g.p = p
  · obtain ⟨g, hg, rfl⟩ := hx
    exact keepW_there b G g hi lo t h1 h2 w h hg
  · have hn : ∀ g ∈ G, g.p ≠ p := fun g hg e => hx ⟨g, hg, e⟩
    refine (keepW_fresh b G p hi lo t w h hp h1 h2 hn).mono ?_
    rintro e w' ⟨rfl, k, hk, hm, hb⟩
    exact ⟨rfl, Kept.fresh hn hk hm hb⟩
theorem keepI_any (b : Nat) (G : List Im) (p : Int) (i : Int) (v : Option Addr) (hi : I64 i) (w : World) (h : Mm w 3 b G) (hp : I64 p) :
    Calls Try.prog 41 #[.map (some b), .int .i64 p, .int .i64 i, .pointer v] w fun e w' => e = .returned (.tuple #[]) ∧ Kept 3 w w' b G p (.int .i64 i) (.pointer v) := by
  by_cases hx : ∃ g ∈ G, g.p = p
  · obtain ⟨g, hg, rfl⟩ := hx
    exact keepI_there b G g i v hi w h hg
  · have hn : ∀ g ∈ G, g.p ≠ p := fun g hg e => hx ⟨g, hg, e⟩
    refine (keepI_fresh b G p i v w h hp hi hn).mono ?_
    rintro e w' ⟨rfl, k, hk, hm, hb⟩
    exact ⟨rfl, Kept.fresh hn hk hm hb⟩
set_option maxRecDepth 100000 in
set_option maxHeartbeats 2000000 in
theorem lookI_any (b : Nat) (G : List Im) (p i : Int) (r : Option Value) (w : World) (h : Mm w 3 b G) (hp : I64 p) (hi : I64 i) (hr : Gt G p (.int .i64 i) r) :
    Calls Try.prog 39 #[.map (some b), .int .i64 p, .int .i64 i] w fun e w' => e = .returned (.tuple #[r.getD (.pointer none), .bool r.isSome]) ∧ w' = w := by
  obtain ⟨m, -, h1, h2⟩ := h.look ikey Try.underlying62 Try.underlying93 zLaid zPtr hp (kint hi) hr
  have H1 := hid h1
  have H2 := hid h2
  clear h1 h2 h hr
  go_enter Try.func39, Try.ntmps39
  go_wp2_with (first | ((with_reducible refine look_arm H1.out ?_ ?_ ?_); (· rfl); (· rfl)) | ((with_reducible refine look_arm H2.out ?_ ?_ ?_); (· rfl); (· rfl)))
  exact bodyPost_ret (v := .tuple #[r.getD (.pointer none), .bool r.isSome]) (by simp [results, Try.results39, go_sem]) rfl ⟨rfl, rfl⟩
theorem Kept.fore {ti : TypeId} {w U w' : World} {b : Nat} {G : List Im} {p : Int} {k v : Value} (hB : Below w.heap.size w U) (h : Kept ti U w' b G p k v) : Kept ti w w' b G p k v := by
  obtain ⟨G', h1, h2, h3, h4, h5⟩ := h
  exact ⟨G', h1, fun g hg => (h2 g hg).imp id (Nat.le_trans hB.size), h3, (But.of hB).trans h4, h5⟩
/-- The book behind a turn of what is live, laid, told. -/
theorem Bk.turn {w w' : World} {m m' : Bm} {B : Bv} (h : Bk w m B) (hb : Bw w' m') (ht : Tr w w' m m') : Vw ikV (RT w') I64 m.A B.laid ∧ Vw fmV (RT w') fmOk m.T B.told :=
  ⟨h.laid.mono (fun v a hr => hr.but h.bw ht.bt (fun _ h => h)), h.told.mono (fun v a hr => hr.but h.bw ht.bt (fun _ h => h))⟩
theorem Bk.live_to {S : Nat → Prop} {w w' : World} {m : Bm} {B : Bv} {L' : List Im} {f : Int → Nat × Nat → Option Tn} {q : Nat} (h : Bk w m B) (hb : But S w w') (hS : ∀ j, S j → j ∈ blG m.bl m.L) (hM : Mm w' 29 m.bl L') (hn : ∀ g ∈ L', g.b ∈ m.L.map Im.b ∨ w.heap.size ≤ g.b) (hv : Vw wkV RL wkOk L' f) (hq : ∀ g ∈ L', g.E.length ≤ q) : Bk w' { m with L := L' } { B with live := f, ct := q } ∧ Tr w w' m { m with L := L' } := by
  obtain ⟨h1, h2⟩ := h.bw.live_to hb hS hM hn
  obtain ⟨h3, h4⟩ := h.turn h1 h2
  exact ⟨⟨h1, h.n, hv, h3, h4, h.lists, h.known, h.kne, hq⟩, h2⟩
theorem Bk.laid_to {S : Nat → Prop} {w w' : World} {m : Bm} {B : Bv} {L' : List Im} {f : Int → Int → Option (List Lk)} (h : Bk w m B) (hb : But S w w') (hS : ∀ j, S j → j ∈ blG m.ba m.A) (hM : Mm w' 3 m.ba L') (hn : ∀ g ∈ L', g.b ∈ m.A.map Im.b ∨ w.heap.size ≤ g.b) (hv : Vw ikV (RT w') I64 L' f) : Bk w' { m with A := L' } { B with laid := f } ∧ Tr w w' m { m with A := L' } := by
  obtain ⟨h1, h2⟩ := h.bw.laid_to hb hS hM hn
  obtain ⟨h3, h4⟩ := h.turn h1 h2
  exact ⟨⟨h1, h.n, h.live, hv, h4, h.lists, h.known, h.kne, h.cnt⟩, h2⟩
theorem Kept.live {w w' : World} {m : Bm} {B : Bv} (h : Bk w m B) {p : Int} {k : Nat × Nat} {t : Tn} (hk : Kept 29 w w' m.bl m.L p (wkV k) t.v) (ho : wkOk k) (ht : RL t.v t) : ∃ m', Bk w' m' { B with live := up2 B.live p k (some t), ct := B.ct + 1 } ∧ Tr w w' m m' := by
  obtain ⟨G', h1, h2, h3, h4, h5⟩ := hk
  exact ⟨_, h.live_to h4 (fun _ h => h) h1 h2 (h.live.put h3 (fun j _ e => wk_inj e) ho ht (fun j e => wk_inj e)) (fun g hg => (h5 g hg).elim (fun h => by omega) (fun ⟨y, hy, hl⟩ => by have := h.cnt y hy; omega))⟩
theorem Kept.laid {w w' : World} {m : Bm} {B : Bv} (h : Bk w m B) {p i : Int} {v : Value} {ls : List Lk} (hk : Kept 3 w w' m.ba m.A p (ikV i) v) (ho : I64 i) (ht : RT w v ls) : ∃ m', Bk w' m' { B with laid := up2 B.laid p i (some ls) } ∧ Tr w w' m m' := by
  obtain ⟨G', h1, h2, h3, h4, h5⟩ := hk
  have hS : ∀ j, j ∈ blG m.ba m.A → Owb m j := fun j hj => .inl (List.mem_append.2 (.inr (List.mem_append.2 (.inr (rest_a hj)))))
  exact ⟨_, h.laid_to h4 (fun _ h => h) h1 h2 ((h.laid.mono (fun v a hr => hr.but h.bw h4 hS)).put h3 (fun j _ e => ik_inj e) ho (ht.but h.bw h4 hS) (fun j e => ik_inj e))⟩
set_option maxRecDepth 100000 in
set_option maxHeartbeats 4000000 in
theorem issue_any (m : Bm) (B : Bv) (c : Cp) (hc : c.far) (ph pl : Nat) (r : Int) (w : World) (h : Bk w m B) (h1 : U64 ph) (h2 : U64 pl) (hr : I64 r) (hnn : I64 B.n) :
    Calls Try.prog 33 #[.pointer (some ⟨m.g, 0, none⟩), capV c, wdV ph pl, .int .i64 r] w fun e w' => e = .returned (.tuple #[]) ∧ ∃ m', Bk w' m' { B with live := up2 B.live c.o (c.h, c.l) (some ⟨c.h, c.l, ph, pl, r, B.n⟩), ct := B.ct + 1 } ∧ Tr w w' m m' := by
  obtain ⟨o, ch, cl⟩ := c
  obtain ⟨W, hW⟩ : ∃ W, W = (w.alloc (Obj.cells #[.int .i64 o, .int .u64 (ch : Int), .int .u64 (cl : Int)] 31)).alloc (Obj.cells #[.int .u64 (ph : Int), .int .u64 (pl : Int)] 29) := ⟨_, rfl⟩
  have hB : Below w.heap.size w W := by rw [hW]; exact below2 _ _ _
  have hBW := h.bw.later hB
  have HX0 : Hid (Bx W w.heap.size [.int .i64 o, .int .u64 (ch : Int), .int .u64 (cl : Int)]) := by rw [hW]; exact (Bx.new w [.int .i64 o, .int .u64 (ch : Int), .int .u64 (cl : Int)] _).later (below1 _ _)
  have HX1 : Hid (Bx W (w.heap.size + 1) [.int .u64 (ph : Int), .int .u64 (pl : Int)]) := by rw [hW]; have := Bx.new (w.alloc (Obj.cells #[.int .i64 o, .int .u64 (ch : Int), .int .u64 (cl : Int)] 31)) [.int .u64 (ph : Int), .int .u64 (pl : Int)] 29; simp at this; exact this
  have HK : Hid (∀ U, Below W.heap.size W U → Calls Try.prog 46 #[.map (some m.bl), .int .i64 o, wdV ch cl, Tn.v ⟨ch, cl, ph, pl, r, m.n⟩] U fun e w' => e = .returned (.tuple #[]) ∧ Kept 29 U w' m.bl m.L o (wdV ch cl) (Tn.v ⟨ch, cl, ph, pl, r, m.n⟩)) := fun U hU => keepW_any m.bl m.L o ch cl ⟨ch, cl, ph, pl, r, m.n⟩ hc.2.1 hc.2.2 U (hBW.live.later hU) hc.1
  have HBW := hid hBW
  have HB := hid hB
  have HW := hid hW
  have HH := hid h
  have HS : Hid (∀ U, But (fun j => j ∈ blG m.bl m.L) W U → (U.rangeAt m.g 0 m.cells ∧ U.rangeAt w.heap.size 0 [.int .i64 o, .int .u64 (ch : Int), .int .u64 (cl : Int)] ∧ U.rangeAt (w.heap.size + 1) 0 [.int .u64 (ph : Int), .int .u64 (pl : Int)])) := fun U hU => by
    have hd := List.nodup_append.1 h.bw.dis
    exact ⟨(hBW.bx.but hU (fun hj => hd.2.2 m.g hj m.g (by simp) rfl)).range, (HX0.out.but hU (fun hj => by have := h.bw.live.lt _ hj; omega)).range, (HX1.out.but hU (fun hj => by have := h.bw.live.lt _ hj; omega)).range⟩
  have HRL : Hid (RL (Tn.v ⟨ch, cl, ph, pl, r, m.n⟩) ⟨ch, cl, ph, pl, r, m.n⟩ ∧ wkOk (ch, cl)) := ⟨⟨rfl, hc.2.1, hc.2.2, h1, h2, hr, by rw [h.n]; exact hnn⟩, hc.2.1, hc.2.2⟩
  clear hBW hB hW h hc h1 h2 hr hnn
  go_enter Try.func33, Try.ntmps33
  go_upto_region 1 with fail
  rw [← HW.out]
  refine wp_region_held_drew (S := (fun U : World => U.rangeAt m.g 0 m.cells ∧ U.rangeAt w.heap.size 0 [.int .i64 o, .int .u64 (ch : Int), .int .u64 (cl : Int)] ∧ U.rangeAt (w.heap.size + 1) 0 [.int .u64 (ph : Int), .int .u64 (pl : Int)])) (by kernel_rfl) (HS.out _ (But.of (Below.refl _ _).drew)) (fun hHeld => ?_)
  refine wpAnyH_norm (l2 := #[false, false, false, false, false, false, false, false, false, false, false, false, false, false, false, false, false, false]) (f2 := 18) (by kernel_rfl) (by kernel_rfl) ?_
  refine wpAnyH_take (i := 0) (oi := _) (v := ?_) rfl (by kernel_rfl) (by kernel_rfl) (by kernel_rfl) (fun _ _ _ h => h) (Or.inl ⟨by rfl, ?_⟩) (by assumption) ?_
  rotate_left
  · (intro w hSw; (try dsimp only at hSw); go_simp; try with_reducible rfl)
  simp only [List.getElem_toArray, List.getElem_cons_succ, List.getElem_cons_zero, Act.put, List.setIfInBounds_toArray, List.set_cons_zero, List.set_cons_succ]
  refine wpAnyH_norm (l2 := #[true, false, false, false, false, false, false, false, false, false, false, false, false, false, false, false, false, false]) (f2 := 17) (by kernel_rfl) (by kernel_rfl) ?_
  refine wpAnyH_take (i := 1) (oi := _) (v := ?_) rfl (by kernel_rfl) (by kernel_rfl) (by kernel_rfl) (fun _ _ _ h => h) (Or.inl ⟨by rfl, ?_⟩) (by assumption) ?_
  rotate_left
  · (intro w hSw; (try dsimp only at hSw); go_simp; try with_reducible rfl)
  simp only [List.getElem_toArray, List.getElem_cons_succ, List.getElem_cons_zero, Act.put, List.setIfInBounds_toArray, List.set_cons_zero, List.set_cons_succ]
  refine wpAnyH_norm (l2 := #[true, true, false, false, false, false, false, false, false, false, false, false, false, false, false, false, false, false]) (f2 := 16) (by kernel_rfl) (by kernel_rfl) ?_
  refine wpAnyH_take (i := 2) (oi := _) (v := ?_) rfl (by kernel_rfl) (by kernel_rfl) (by kernel_rfl) (fun _ _ _ h => h) (Or.inl ⟨by rfl, ?_⟩) (by assumption) ?_
  rotate_left
  · (intro w hSw; (try dsimp only at hSw); go_simp; try with_reducible rfl)
  simp only [List.getElem_toArray, List.getElem_cons_succ, List.getElem_cons_zero, Act.put, List.setIfInBounds_toArray, List.set_cons_zero, List.set_cons_succ]
  refine wpAnyH_norm (l2 := #[true, true, true, false, false, false, false, false, false, false, false, false, false, false, false, false, false, false]) (f2 := 15) (by kernel_rfl) (by kernel_rfl) ?_
  refine wpAnyH_take (i := 3) (oi := _) (v := ?_) rfl (by kernel_rfl) (by kernel_rfl) (by kernel_rfl) (fun _ _ _ h => h) (Or.inl ⟨by rfl, ?_⟩) (by assumption) ?_
  rotate_left
  · (intro w hSw; have z1 := rg_at (j := 1) hSw.1 rfl; go_simp; try with_reducible rfl)
  simp only [List.getElem_toArray, List.getElem_cons_succ, List.getElem_cons_zero, Act.put, List.setIfInBounds_toArray, List.set_cons_zero, List.set_cons_succ]
  refine wpAnyH_norm (l2 := #[true, true, true, true, false, false, false, false, false, false, false, false, false, false, false, false, false, false]) (f2 := 14) (by kernel_rfl) (by kernel_rfl) ?_
  refine wpAnyH_take (i := 4) (oi := _) (v := ?_) rfl (by kernel_rfl) (by kernel_rfl) (by kernel_rfl) (fun _ _ _ h => h) (Or.inl ⟨by rfl, ?_⟩) (by assumption) ?_
  rotate_left
  · (intro w hSw; (try dsimp only at hSw); go_simp; try with_reducible rfl)
  simp only [List.getElem_toArray, List.getElem_cons_succ, List.getElem_cons_zero, Act.put, List.setIfInBounds_toArray, List.set_cons_zero, List.set_cons_succ]
  refine wpAnyH_norm (l2 := #[true, true, true, true, true, false, false, false, false, false, false, false, false, false, false, false, false, false]) (f2 := 13) (by kernel_rfl) (by kernel_rfl) ?_
  refine wpAnyH_take (i := 5) (oi := _) (v := ?_) rfl (by kernel_rfl) (by kernel_rfl) (by kernel_rfl) (fun _ _ _ h => h) (Or.inl ⟨by rfl, ?_⟩) (by assumption) ?_
  rotate_left
  · (intro w hSw; have z0 := rg_at (j := 0) hSw.2.1 rfl; go_simp; try with_reducible rfl)
  simp only [List.getElem_toArray, List.getElem_cons_succ, List.getElem_cons_zero, Act.put, List.setIfInBounds_toArray, List.set_cons_zero, List.set_cons_succ]
  refine wpAnyH_norm (l2 := #[true, true, true, true, true, true, false, false, false, false, false, false, false, false, false, false, false, false]) (f2 := 12) (by kernel_rfl) (by kernel_rfl) ?_
  refine wpAnyH_take (i := 6) (oi := _) (v := ?_) rfl (by kernel_rfl) (by kernel_rfl) (by kernel_rfl) (fun _ _ _ h => h) (Or.inl ⟨by rfl, ?_⟩) (by assumption) ?_
  rotate_left
  · (intro w hSw; (try dsimp only at hSw); go_simp; try with_reducible rfl)
  simp only [List.getElem_toArray, List.getElem_cons_succ, List.getElem_cons_zero, Act.put, List.setIfInBounds_toArray, List.set_cons_zero, List.set_cons_succ]
  refine wpAnyH_norm (l2 := #[true, true, true, true, true, true, true, false, false, false, false, false, false, false, false, false, false, false]) (f2 := 11) (by kernel_rfl) (by kernel_rfl) ?_
  refine wpAnyH_take (i := 7) (oi := _) (v := ?_) rfl (by kernel_rfl) (by kernel_rfl) (by kernel_rfl) (fun _ _ _ h => h) (Or.inl ⟨by rfl, ?_⟩) (by assumption) ?_
  rotate_left
  · (intro w hSw; have z1 := rg_at (j := 1) hSw.2.1 rfl; have z2 := rg_at (j := 2) hSw.2.1 rfl; go_simp; try with_reducible rfl)
  simp only [List.getElem_toArray, List.getElem_cons_succ, List.getElem_cons_zero, Act.put, List.setIfInBounds_toArray, List.set_cons_zero, List.set_cons_succ]
  refine wpAnyH_norm (l2 := #[true, true, true, true, true, true, true, true, false, false, false, false, false, false, false, false, false, false]) (f2 := 10) (by kernel_rfl) (by kernel_rfl) ?_
  refine wpAnyH_take (i := 8) (oi := _) (v := ?_) rfl (by kernel_rfl) (by kernel_rfl) (by kernel_rfl) (fun _ _ _ h => h) (Or.inl ⟨by rfl, ?_⟩) (by assumption) ?_
  rotate_left
  · (intro w hSw; (try dsimp only at hSw); go_simp; try with_reducible rfl)
  simp only [List.getElem_toArray, List.getElem_cons_succ, List.getElem_cons_zero, Act.put, List.setIfInBounds_toArray, List.set_cons_zero, List.set_cons_succ]
  refine wpAnyH_norm (l2 := #[true, true, true, true, true, true, true, true, true, false, false, false, false, false, false, false, false, false]) (f2 := 9) (by kernel_rfl) (by kernel_rfl) ?_
  refine wpAnyH_take (i := 9) (oi := _) (v := ?_) rfl (by kernel_rfl) (by kernel_rfl) (by kernel_rfl) (fun _ _ _ h => h) (Or.inl ⟨by rfl, ?_⟩) (by assumption) ?_
  rotate_left
  · (intro w hSw; have z1 := rg_at (j := 1) hSw.2.1 rfl; have z2 := rg_at (j := 2) hSw.2.1 rfl; go_simp; try with_reducible rfl)
  simp only [List.getElem_toArray, List.getElem_cons_succ, List.getElem_cons_zero, Act.put, List.setIfInBounds_toArray, List.set_cons_zero, List.set_cons_succ]
  refine wpAnyH_norm (l2 := #[true, true, true, true, true, true, true, true, true, true, false, false, false, false, false, false, false, false]) (f2 := 8) (by kernel_rfl) (by kernel_rfl) ?_
  refine wpAnyH_take (i := 10) (oi := _) (v := ?_) rfl (by kernel_rfl) (by kernel_rfl) (by kernel_rfl) (fun _ _ _ h => h) (Or.inl ⟨by rfl, ?_⟩) (by assumption) ?_
  rotate_left
  · (intro w hSw; have z0 := rg_at (j := 0) hSw.2.2 rfl; have z1 := rg_at (j := 1) hSw.2.2 rfl; go_simp; try with_reducible rfl)
  simp only [List.getElem_toArray, List.getElem_cons_succ, List.getElem_cons_zero, Act.put, List.setIfInBounds_toArray, List.set_cons_zero, List.set_cons_succ]
  refine wpAnyH_norm (l2 := #[true, true, true, true, true, true, true, true, true, true, true, false, false, false, false, false, false, false]) (f2 := 7) (by kernel_rfl) (by kernel_rfl) ?_
  refine wpAnyH_take (i := 11) (oi := _) (v := ?_) rfl (by kernel_rfl) (by kernel_rfl) (by kernel_rfl) (fun _ _ _ h => h) (Or.inl ⟨by rfl, ?_⟩) (by assumption) ?_
  rotate_left
  · (intro w hSw; (try dsimp only at hSw); go_simp; try with_reducible rfl)
  simp only [List.getElem_toArray, List.getElem_cons_succ, List.getElem_cons_zero, Act.put, List.setIfInBounds_toArray, List.set_cons_zero, List.set_cons_succ]
  refine wpAnyH_norm (l2 := #[true, true, true, true, true, true, true, true, true, true, true, true, false, false, false, false, false, false]) (f2 := 6) (by kernel_rfl) (by kernel_rfl) ?_
  refine wpAnyH_take (i := 12) (oi := _) (v := ?_) rfl (by kernel_rfl) (by kernel_rfl) (by kernel_rfl) (fun _ _ _ h => h) (Or.inl ⟨by rfl, ?_⟩) (by assumption) ?_
  rotate_left
  · (intro w hSw; (try dsimp only at hSw); go_simp; try with_reducible rfl)
  simp only [List.getElem_toArray, List.getElem_cons_succ, List.getElem_cons_zero, Act.put, List.setIfInBounds_toArray, List.set_cons_zero, List.set_cons_succ]
  refine wpAnyH_norm (l2 := #[true, true, true, true, true, true, true, true, true, true, true, true, true, false, false, false, false, false]) (f2 := 5) (by kernel_rfl) (by kernel_rfl) ?_
  refine wpAnyH_take (i := 13) (oi := _) (v := ?_) rfl (by kernel_rfl) (by kernel_rfl) (by kernel_rfl) (fun _ _ _ h => h) (Or.inl ⟨by rfl, ?_⟩) (by assumption) ?_
  rotate_left
  · (intro w hSw; (try dsimp only at hSw); go_simp; try with_reducible rfl)
  simp only [List.getElem_toArray, List.getElem_cons_succ, List.getElem_cons_zero, Act.put, List.setIfInBounds_toArray, List.set_cons_zero, List.set_cons_succ]
  refine wpAnyH_norm (l2 := #[true, true, true, true, true, true, true, true, true, true, true, true, true, true, false, false, false, false]) (f2 := 4) (by kernel_rfl) (by kernel_rfl) ?_
  refine wpAnyH_take (i := 14) (oi := _) (v := ?_) rfl (by kernel_rfl) (by kernel_rfl) (by kernel_rfl) (fun _ _ _ h => h) (Or.inl ⟨by rfl, ?_⟩) (by assumption) ?_
  rotate_left
  · (intro w hSw; (try dsimp only at hSw); go_simp; try with_reducible rfl)
  simp only [List.getElem_toArray, List.getElem_cons_succ, List.getElem_cons_zero, Act.put, List.setIfInBounds_toArray, List.set_cons_zero, List.set_cons_succ]
  refine wpAnyH_norm (l2 := #[true, true, true, true, true, true, true, true, true, true, true, true, true, true, true, false, false, false]) (f2 := 3) (by kernel_rfl) (by kernel_rfl) ?_
  refine wpAnyH_take (i := 15) (oi := _) (v := ?_) rfl (by kernel_rfl) (by kernel_rfl) (by kernel_rfl) (fun _ _ _ h => h) (Or.inl ⟨by rfl, ?_⟩) (by assumption) ?_
  rotate_left
  · (intro w hSw; have z0 := rg_at (j := 0) hSw.1 rfl; go_simp; try with_reducible rfl)
  simp only [List.getElem_toArray, List.getElem_cons_succ, List.getElem_cons_zero, Act.put, List.setIfInBounds_toArray, List.set_cons_zero, List.set_cons_succ]
  refine wpAnyH_norm (l2 := #[true, true, true, true, true, true, true, true, true, true, true, true, true, true, true, true, false, false]) (f2 := 2) (by kernel_rfl) (by kernel_rfl) ?_
  refine wpAnyH_take (i := 16) (oi := _) (v := ?_) rfl (by kernel_rfl) (by kernel_rfl) (by kernel_rfl) (fun _ _ _ h => h) (Or.inl ⟨by rfl, ?_⟩) (by assumption) ?_
  rotate_left
  · (intro w hSw; (try dsimp only at hSw); go_simp; try with_reducible rfl)
  simp only [List.getElem_toArray, List.getElem_cons_succ, List.getElem_cons_zero, Act.put, List.setIfInBounds_toArray, List.set_cons_zero, List.set_cons_succ]
  refine wpAnyH_norm (l2 := #[true, true, true, true, true, true, true, true, true, true, true, true, true, true, true, true, true, false]) (f2 := 1) (by kernel_rfl) (by kernel_rfl) ?_
  refine wpAnyH_ready (rs := [17]) (by kernel_rfl) (by simp) ?_
  refine AllReadyH.cons rfl (fun K hK => ?_) AllReadyH.nil
  go_simp
  go_wp2_with (first | (go_at_call 46; refine (HK.out _ (Below.refl _ _).drew).mono ?_; rintro e w1 ⟨rfl, hk⟩))
  have HKk := hid hk
  have HBb : Hid (But (fun j => j ∈ blG m.bl m.L) W w1) := by obtain ⟨G, _, _, _, hb, _⟩ := hk; exact (But.of (Below.refl _ _).drew).trans hb
  clear hk
  refine hK.out _ _ (HS.out _ HBb.out) (fun hHeld => ?_)
  clear hK K
  simp only [List.getElem_toArray, List.getElem_cons_succ, List.getElem_cons_zero, Act.put, List.setIfInBounds_toArray, List.set_cons_zero, List.set_cons_succ]
  refine wpAnyH_norm (l2 := #[true, true, true, true, true, true, true, true, true, true, true, true, true, true, true, true, true, true]) (f2 := 0) (by kernel_rfl) (by kernel_rfl) ?_
  refine wpAnyH_done (by kernel_rfl) ?_ _
  go_wp2
  have hfin := Kept.live HH.out (k := (ch, cl)) ((HKk.out.fore (Below.refl _ _).drew).fore HB.out) HRL.out.2 HRL.out.1
  rw [HH.out.n] at hfin
  exact bodyPost_end (v := .tuple #[]) (by simp [results, Try.results33, go_sem]) rfl ⟨rfl, hfin⟩
end Go.Proofs.Yticgammbjcdobaa
