import Derived.Test.YticgammbjcdobaaMC
namespace Go.Proofs.Yticgammbjcdobaa
open Go.RowKit
set_option linter.unusedVariables false
set_option linter.unusedSimpArgs false
/-! Maps of maps: by a number, then by a key. -/
structure Im where
  p : Int
  b : Nat
  E : List (Value × Value)
structure Mm (w : World) (ti : TypeId) (b : Nat) (G : List Im) : Prop where
  out : Mg w 3 b (G.map fun g => (.int .i64 g.p, .map (some g.b)))
  inn : ∀ g ∈ G, Mg w ti g.b g.E
  dis : (b :: G.map Im.b).Nodup
theorem Mm.but {S : Nat → Prop} {w w' : World} {ti : TypeId} {b : Nat} {G : List Im} (h : Mm w ti b G) (hb : But S w w') (hn : ∀ k ∈ b :: G.map Im.b, ¬ S k) : Mm w' ti b G :=
  ⟨h.out.but hb (hn b List.mem_cons_self), fun g hg => (h.inn g hg).but hb (hn _ (List.mem_cons_of_mem _ (List.mem_map.2 ⟨g, hg, rfl⟩))), h.dis⟩
theorem Mm.later {w w' : World} {ti : TypeId} {b : Nat} {G : List Im} (h : Mm w ti b G) (hb : Below w.heap.size w w') : Mm w' ti b G := h.but (S := fun _ => False) (But.of hb) (fun _ _ h => h)
theorem Mm.new (w : World) (ti : TypeId) : Mm (w.alloc (.map #[] 0)) ti w.heap.size [] := ⟨Mg.new w _, fun g h => (by cases h), by simp⟩
theorem Mm.lt {w : World} {ti : TypeId} {b : Nat} {G : List Im} (h : Mm w ti b G) : ∀ k ∈ b :: G.map Im.b, k < w.heap.size := by
  intro k hk
  rcases List.mem_cons.1 hk with rfl | hk
  · exact h.out.lt
  · obtain ⟨g, hg, rfl⟩ := List.mem_map.1 hk
    exact (h.inn g hg).lt
/-- What stands under two keys. -/
def Gt (G : List Im) (p : Int) (k : Value) : Option Value → Prop
  | some v => ∃ g ∈ G, g.p = p ∧ (k, v) ∈ g.E
  | none => ∀ g ∈ G, g.p = p → ∀ x ∈ g.E, x.1 ≠ k
theorem Gt.some_of {G : List Im} (p : Int) (k : Value) : ∃ r, Gt G p k r := by
  by_cases h : ∃ v, ∃ g ∈ G, g.p = p ∧ (k, v) ∈ g.E
  · obtain ⟨v, h⟩ := h
    exact ⟨some v, h⟩
  · exact ⟨none, fun g hg hp x hx e => h ⟨x.2, g, hg, hp, by rw [← e]; exact hx⟩⟩
theorem Mm.key {w : World} {ti : TypeId} {b : Nat} {G : List Im} (h : Mm w ti b G) {g g' : Im} (hg : g ∈ G) (hg' : g' ∈ G) (e : g.p = g'.p) : g.b = g'.b := by
  have h1 : (Value.int .i64 g.p, Value.map (some g.b)) ∈ G.map fun g => (Value.int .i64 g.p, Value.map (some g.b)) := List.mem_map.2 ⟨g, hg, rfl⟩
  have h2 : (Value.int .i64 g.p, Value.map (some g'.b)) ∈ G.map fun g => (Value.int .i64 g.p, Value.map (some g.b)) := List.mem_map.2 ⟨g', hg', by rw [e]⟩
  have := h.out.one h1 h2
  simpa using this
theorem Mm.same {w : World} {ti : TypeId} {b : Nat} {G : List Im} (h : Mm w ti b G) {g g' : Im} (hg : g ∈ G) (hg' : g' ∈ G) (e : g.p = g'.p) : g = g' := by
  have hb := h.key hg hg' e
  have hn := (List.nodup_cons.1 h.dis).2
  clear h
  induction G with
  | nil => cases hg
  | cons x G ih =>
    rw [List.map_cons, List.nodup_cons] at hn
    rcases List.mem_cons.1 hg with h1 | h1 <;> rcases List.mem_cons.1 hg' with h2 | h2
    · rw [h1, h2]
    · exact absurd (show x.b ∈ G.map Im.b from List.mem_map.2 ⟨g', h2, by rw [← hb, h1]⟩) hn.1
    · exact absurd (show x.b ∈ G.map Im.b from List.mem_map.2 ⟨g, h1, by rw [hb, h2]⟩) hn.1
    · exact ih h1 h2 hn.2
/-- The inner map that a number finds. -/
def inV (G : List Im) (p : Int) : Option Nat → Prop
  | some b => ∃ g ∈ G, g.p = p ∧ g.b = b
  | none => ∀ g ∈ G, g.p ≠ p
theorem inV.some_of (G : List Im) (p : Int) : ∃ r, inV G p r := by
  by_cases h : ∃ g ∈ G, g.p = p
  · obtain ⟨g, hg, e⟩ := h
    exact ⟨some g.b, g, hg, e, rfl⟩
  · exact ⟨none, fun g hg e => h ⟨g, hg, e⟩⟩
/-- Both look-ups. -/
theorem Mm.look {w : World} {ti : TypeId} {b : Nat} {G : List Im} (h : Mm w ti b G) (K : Kd ti) {tq tm e : TypeId} (ho : Try.prog.underlying tq = some (.map 3 tm)) (hi : Try.prog.underlying tm = some (.map ti e)) (hz0 : ∀ w, (zeroValue tm).run Try.prog w = .ok (.map none) w) {z : Value} (hz : ∀ w, (zeroValue e).run Try.prog w = .ok z w)
    {p : Int} (hp : I64 p) {k : Value} (hk : Kv ti k) {r : Option Value} (hr : Gt G p k r) :
    ∃ m : Option Nat, inV G p m ∧ (Instr.lookup tq (.map (some b)) (.int .i64 p) false).run Try.prog w = .ok (.map m) w ∧ (Instr.lookup tm (.map m) k true).run Try.prog w = .ok (.tuple #[r.getD z, .bool r.isSome]) w := by
  by_cases hx : ∃ g ∈ G, g.p = p
  · obtain ⟨g, hg, rfl⟩ := hx
    refine ⟨some g.b, ⟨g, hg, rfl, rfl⟩, h.out.hit ikey ho (List.mem_map.2 ⟨g, hg, rfl⟩) false, ?_⟩
    cases r with
    | some v =>
      obtain ⟨g', hg', e', hm⟩ := hr
      have := h.same hg hg' e'.symm
      subst this
      exact (h.inn g hg).hit K hi hm true
    | none => exact (h.inn g hg).miss K hi hk (fun x hx => hr g hg rfl x hx) (hz w) true
  · have hn : ∀ g ∈ G, g.p ≠ p := fun g hg e => hx ⟨g, hg, e⟩
    refine ⟨none, hn, h.out.miss ikey ho (kint hp) (fun x hx => ?_) (hz0 w) false, ?_⟩
    · obtain ⟨g, hg, rfl⟩ := List.mem_map.1 hx
      intro e
      simp at e
      exact hn g hg e
    · cases r with
      | some v => obtain ⟨g', hg', e', hm⟩ := hr; exact absurd e' (hn g' hg')
      | none => exact nil_miss w K hi hk (hz w) true
/-- One more under two keys: no inner map for the number yet. -/
theorem Mm.fresh {w : World} {ti : TypeId} {b : Nat} {G : List Im} (h : Mm w ti b G) (K : Kd ti) {tq tm e : TypeId} (ho : Try.prog.underlying tq = some (.map 3 tm)) (hi : Try.prog.underlying tm = some (.map ti e)) {p : Int} (hp : I64 p) (hn : ∀ g ∈ G, g.p ≠ p) {k : Value} (hk : Kv ti k) (v : Value) :
    ∃ w1 w2, (Instr.mapUpdate tq (.map (some b)) (.int .i64 p) (.map (some w.heap.size))).run Try.prog (w.alloc (.map #[] 0)) = .ok () w1 ∧ (Instr.lookup tq (.map (some b)) (.int .i64 p) false).run Try.prog w1 = .ok (.map (some w.heap.size)) w1 ∧ (Instr.mapUpdate tm (.map (some w.heap.size)) k v).run Try.prog w1 = .ok () w2 ∧ Mm w2 ti b (G ++ [⟨p, w.heap.size, [(k, v)]⟩]) ∧ But (· = b) w w2 ∧ w.heap.size ≤ w1.heap.size ∧ But (· = b) w w1 := by
  have hb1 := below1 w (.map #[] 0)
  have hbl := h.out.lt
  obtain ⟨w1, r1, m1, b1, s1⟩ := (h.out.later hb1).add ikey ho (kint hp) (fun x hx => by
    obtain ⟨g, hg, rfl⟩ := List.mem_map.1 hx
    intro e
    simp at e
    exact hn g hg e) (.map (some w.heap.size))
  have hne : w.heap.size ≠ b := by omega
  have mi : Mg w1 ti w.heap.size [] := (Mg.new w ti).but b1 hne
  obtain ⟨w2, r2, m2, b2, s2⟩ := mi.add K hi hk (fun x hx => by cases hx) v
  have hm1 : Mg w1 3 b ((G ++ [(⟨p, w.heap.size, [(k, v)]⟩ : Im)]).map fun g : Im => (.int .i64 g.p, .map (some g.b))) := by rw [List.map_append]; exact m1
  refine ⟨w1, w2, r1, m1.hit ikey ho (List.mem_append.2 (.inr (List.mem_singleton.2 rfl))) false, r2, ⟨hm1.but b2 (fun e => hne e.symm), fun g hg => ?_, ?_⟩, ((But.of hb1).trans b1).comp b2 (fun i hi => .inr (by omega)), by rw [s1]; exact hb1.size, (But.of hb1).trans b1⟩
  · rcases List.mem_append.1 hg with hg | hg
    · have hgl := (h.inn g hg).lt
      have hgb : g.b ≠ b := fun e => (List.nodup_cons.1 h.dis).1 (by rw [← e]; exact List.mem_map.2 ⟨g, hg, rfl⟩)
      exact (((h.inn g hg).later hb1).but b1 hgb).but b2 (by omega)
    · rw [List.mem_singleton.1 hg]
      exact m2
  · rw [List.map_append, ← List.cons_append, List.nodup_append]
    refine ⟨h.dis, by simp, fun a ha c hc => ?_⟩
    have := h.lt a ha
    simp at hc
    omega
/-- One more under two keys: the number has an inner map, the key is new. -/
theorem Mm.more {w : World} {ti : TypeId} {b : Nat} {G : List Im} (h : Mm w ti b G) (K : Kd ti) {tq tm e : TypeId} (ho : Try.prog.underlying tq = some (.map 3 tm)) (hi : Try.prog.underlying tm = some (.map ti e)) {G1 G2 : List Im} {g : Im} (hG : G = G1 ++ g :: G2) {k : Value} (hk : Kv ti k) (hn : ∀ x ∈ g.E, x.1 ≠ k) (v : Value) :
    ∃ w2, (Instr.lookup tq (.map (some b)) (.int .i64 g.p) false).run Try.prog w = .ok (.map (some g.b)) w ∧ (Instr.mapUpdate tm (.map (some g.b)) k v).run Try.prog w = .ok () w2 ∧ Mm w2 ti b (G1 ++ ⟨g.p, g.b, g.E ++ [(k, v)]⟩ :: G2) ∧ But (· = g.b) w w2 := by
  have hg : g ∈ G := by rw [hG]; simp
  obtain ⟨w2, r2, m2, b2, s2⟩ := (h.inn g hg).add K hi hk hn v
  have hd := h.dis
  have hgb : b ≠ g.b := fun e => (List.nodup_cons.1 hd).1 (by rw [e]; exact List.mem_map.2 ⟨g, hg, rfl⟩)
  have hmap : (G1 ++ (⟨g.p, g.b, g.E ++ [(k, v)]⟩ : Im) :: G2).map (fun g => (Value.int .i64 g.p, Value.map (some g.b))) = G.map (fun g => (Value.int .i64 g.p, Value.map (some g.b))) := by rw [hG]; simp
  have hmb : (G1 ++ (⟨g.p, g.b, g.E ++ [(k, v)]⟩ : Im) :: G2).map Im.b = G.map Im.b := by rw [hG]; simp
  refine ⟨w2, h.out.hit ikey ho (List.mem_map.2 ⟨g, hg, rfl⟩) false, r2, ⟨by rw [hmap]; exact h.out.but b2 hgb, fun x hx => ?_, by rw [hmb]; exact hd⟩, b2⟩
  have hnd := (List.nodup_cons.1 hd).2
  rw [hG, List.map_append, List.map_cons, List.nodup_append] at hnd
  rcases List.mem_append.1 hx with hx | hx
  · exact (h.inn x (by rw [hG]; exact List.mem_append.2 (.inl hx))).but b2 (fun e => hnd.2.2 x.b (List.mem_map.2 ⟨x, hx, rfl⟩) g.b List.mem_cons_self e)
  · rcases List.mem_cons.1 hx with rfl | hx
    · exact m2
    · exact (h.inn x (by rw [hG]; exact List.mem_append.2 (.inr (List.mem_cons_of_mem _ hx)))).but b2 (fun e => (List.nodup_cons.1 hnd.2.1).1 (by rw [← e]; exact List.mem_map.2 ⟨x, hx, rfl⟩))
theorem zTold (w : World) : (zeroValue 109).run Try.prog w = .ok (.map none) w := by kernel_rfl
theorem zPtr (w : World) : (zeroValue 70).run Try.prog w = .ok (.pointer none) w := by kernel_rfl
theorem nilT (w : World) : (binOp .eql 109 (.map none) (.map none)).run Try.prog w = .ok (.bool true) w := by kernel_rfl
theorem nilT' (b : Nat) (w : World) : (binOp .eql 109 (.map (some b)) (.map none)).run Try.prog w = .ok (.bool false) w := by kernel_rfl
theorem nilL (w : World) : (binOp .eql 82 (.map none) (.map none)).run Try.prog w = .ok (.bool true) w := by kernel_rfl
theorem nilL' (b : Nat) (w : World) : (binOp .eql 82 (.map (some b)) (.map none)).run Try.prog w = .ok (.bool false) w := by kernel_rfl
theorem zLive (w : World) : (zeroValue 82).run Try.prog w = .ok (.map none) w := by kernel_rfl
abbrev tk0 : Value := .agg #[.int .u64 0, .int .u64 0, .int .u64 0, .int .u64 0, .int .i64 0, .int .i64 0]
theorem zTok (w : World) : (zeroValue 77).run Try.prog w = .ok tk0 w := by kernel_rfl
set_option maxRecDepth 100000 in
set_option maxHeartbeats 2000000 in
theorem lookF_any (b : Nat) (G : List Im) (p : Int) (F : List Nat) (r : Option Value) (w : World) (h : Mm w 95 b G) (hp : I64 p) (hl : F.length = 24) (hs : ∀ x ∈ F, x < 256) (hr : Gt G p (fmV F) r) :
    Calls Try.prog 40 #[.map (some b), .int .i64 p, fmV F] w fun e w' => e = .returned (.tuple #[r.getD (.pointer none), .bool r.isSome]) ∧ Below w.heap.size w w' := by
  obtain ⟨W, hW⟩ : ∃ W, W = w.alloc (Obj.cells (u8s F).toArray 95) := ⟨_, rfl⟩
  have hB : Below w.heap.size w W := by rw [hW]; exact below1 _ _
  have HLD : Hid ((Instr.loadAt 95 (.pointer (some ⟨w.heap.size, 0, none⟩))).run Try.prog W = .ok (fmV F) W) := by rw [hW]; exact ldFm (rangeAt_new w (u8s F) _) (by rw [u8s_length]; exact hl)
  obtain ⟨m, -, h1, h2⟩ := (h.later hB).look fkey Try.underlying63 Try.underlying109 zTold zPtr hp (kform hl hs) hr
  have H1 := hid h1
  have H2 := hid h2
  have HW := hid hW
  have HB := hid hB
  clear h1 h2 hW hB h hr
  go_enter Try.func40, Try.ntmps40
  go_upto_region 1 with fail
  rw [← HW.out]
  go_wp2_with (first | ((with_reducible refine look_arm H1.out ?_ ?_ ?_); (· rfl); (· rfl)) | ((with_reducible refine look_arm H2.out ?_ ?_ ?_); (· rfl); (· rfl)) | ((with_reducible refine ld_arm HLD.out ?_ ?_); (· rfl)))
  exact bodyPost_ret (v := .tuple #[r.getD (.pointer none), .bool r.isSome]) (by simp [results, Try.results40, go_sem]) rfl ⟨rfl, HB.out⟩
set_option maxRecDepth 100000 in
set_option maxHeartbeats 2000000 in
theorem keepF_fresh (b : Nat) (G : List Im) (p : Int) (F : List Nat) (v : Option Addr) (w : World) (h : Mm w 95 b G) (hp : I64 p) (hl : F.length = 24) (hs : ∀ x ∈ F, x < 256) (hn : ∀ g ∈ G, g.p ≠ p) :
    Calls Try.prog 47 #[.map (some b), .int .i64 p, fmV F, .pointer v] w fun e w' => e = .returned (.tuple #[]) ∧ ∃ k, w.heap.size ≤ k ∧ Mm w' 95 b (G ++ [⟨p, k, [(fmV F, .pointer v)]⟩]) ∧ But (· = b) w w' := by
  obtain ⟨W, hW⟩ : ∃ W, W = w.alloc (Obj.cells (u8s F).toArray 95) := ⟨_, rfl⟩
  have hB : Below w.heap.size w W := by rw [hW]; exact below1 _ _
  have hMW := h.later hB
  obtain ⟨m, hm, h0, -⟩ := hMW.look fkey Try.underlying63 Try.underlying109 zTold zPtr hp (kform hl hs) (r := none) (fun g hg e => absurd e (hn g hg))
  obtain rfl : m = none := by
    cases m with
    | none => rfl
    | some k => obtain ⟨g, hg, e, _⟩ := hm; exact absurd e (hn g hg)
  obtain ⟨w1, w2, r1, r2, r3, m2, b2, s1, b1⟩ := hMW.fresh fkey Try.underlying63 Try.underlying109 hp hn (kform hl hs) (.pointer v)
  have hlW := h.out.lt
  have HLD : Hid ((Instr.loadAt 95 (.pointer (some ⟨w.heap.size, 0, none⟩))).run Try.prog w1 = .ok (fmV F) w1) := by
    have hx : Bx W w.heap.size (u8s F) := by rw [hW]; exact Bx.new w (u8s F) _
    exact ldFm (hx.but b1 (by omega)).range (by rw [u8s_length]; exact hl)
  have H0 := hid h0
  have HR1 := hid r1
  have HR2 := hid r2
  have HR3 := hid r3
  have HM := hid m2
  have HBt : Hid (But (· = b) w w2) := (But.of hB).trans b2
  have HW := hid hW
  have HS : Hid (w.heap.size ≤ W.heap.size) := hB.size
  have hmk := run_mkMap Try.underlying109 W
  have hnil := nilT W
  clear h0 r1 r2 r3 m2 b2 s1 b1 hW hB hMW h hn hm
  go_enter Try.func47, Try.ntmps47
  go_upto_region 1 with fail
  rw [← HW.out]
  go_wp2_with (first | ((with_reducible refine look_arm H0.out ?_ ?_ ?_); (· rfl); (· rfl)) | ((with_reducible refine upd_arm HR1.out ?_ ?_ ?_ ?_); (· rfl); (· rfl); (· rfl)) | ((with_reducible refine look_arm HR2.out ?_ ?_ ?_); (· rfl); (· rfl)) | ((with_reducible refine ld_arm HLD.out ?_ ?_); (· rfl)) | ((with_reducible refine upd_arm HR3.out ?_ ?_ ?_ ?_); (· rfl); (· rfl); (· rfl)))
  exact bodyPost_end (v := .tuple #[]) (by simp [results, Try.results47, go_sem]) rfl ⟨rfl, _, HS.out, HM.out, HBt.out⟩
set_option maxRecDepth 100000 in
set_option maxHeartbeats 2000000 in
theorem keepF_more (b : Nat) (G G1 G2 : List Im) (g : Im) (F : List Nat) (v : Option Addr) (w : World) (h : Mm w 95 b G) (hG : G = G1 ++ g :: G2) (hl : F.length = 24) (hs : ∀ x ∈ F, x < 256) (hn : ∀ x ∈ g.E, x.1 ≠ fmV F) :
    Calls Try.prog 47 #[.map (some b), .int .i64 g.p, fmV F, .pointer v] w fun e w' => e = .returned (.tuple #[]) ∧ Mm w' 95 b (G1 ++ ⟨g.p, g.b, g.E ++ [(fmV F, .pointer v)]⟩ :: G2) ∧ But (· = g.b) w w' := by
  obtain ⟨W, hW⟩ : ∃ W, W = w.alloc (Obj.cells (u8s F).toArray 95) := ⟨_, rfl⟩
  have hB : Below w.heap.size w W := by rw [hW]; exact below1 _ _
  obtain ⟨w2, r1, r2, m2, b2⟩ := (h.later hB).more fkey Try.underlying63 Try.underlying109 hG (kform hl hs) hn (.pointer v)
  have HLD : Hid ((Instr.loadAt 95 (.pointer (some ⟨w.heap.size, 0, none⟩))).run Try.prog W = .ok (fmV F) W) := by rw [hW]; exact ldFm (rangeAt_new w (u8s F) _) (by rw [u8s_length]; exact hl)
  have HR1 := hid r1
  have HR2 := hid r2
  have HM := hid m2
  have HBt : Hid (But (· = g.b) w w2) := (But.of hB).trans b2
  have HW := hid hW
  obtain ⟨gp, gb, gE⟩ := g
  simp only at HR1 HR2 HM HBt ⊢
  have hnil := nilT' gb W
  clear r1 r2 m2 b2 hW hB h hn hG
  go_enter Try.func47, Try.ntmps47
  go_upto_region 1 with fail
  rw [← HW.out]
  go_wp2_with (first | ((with_reducible refine look_arm HR1.out ?_ ?_ ?_); (· rfl); (· rfl)) | ((with_reducible refine ld_arm HLD.out ?_ ?_); (· rfl)) | ((with_reducible refine upd_arm HR2.out ?_ ?_ ?_ ?_); (· rfl); (· rfl); (· rfl)))
  exact bodyPost_end (v := .tuple #[]) (by simp [results, Try.results47, go_sem]) rfl ⟨rfl, HM.out, HBt.out⟩
/-- A token's cells: its password, its parent's, rights, step. -/
structure Tn where
  h : Nat
  l : Nat
  ph : Nat
  pl : Nat
  r : Int
  s : Int
abbrev Tn.L (t : Tn) : List Value := [.int .u64 (t.h : Int), .int .u64 (t.l : Int), .int .u64 (t.ph : Int), .int .u64 (t.pl : Int), .int .i64 t.r, .int .i64 t.s]
abbrev Tn.v (t : Tn) : Value := .agg #[.int .u64 (t.h : Int), .int .u64 (t.l : Int), .int .u64 (t.ph : Int), .int .u64 (t.pl : Int), .int .i64 t.r, .int .i64 t.s]
def tn0 : Tn := ⟨0, 0, 0, 0, 0, 0⟩
theorem infoTn : (Try.prog.info? 77).map (·.size) = some 6 := by kernel_rfl
theorem infoWd : (Try.prog.info? 29).map (·.size) = some 2 := by kernel_rfl
theorem ldTn {w : World} {b o : Nat} {L : List Value} (h : w.rangeAt b o L) (hl : L.length = 6) : (Instr.loadAt 77 (.pointer (some ⟨b, o, none⟩))).run Try.prog w = .ok (.agg L.toArray) w :=
  run_loadAt_mid w b o 77 L _ h Try.underlying77 rfl (by rw [infoTn, hl])
theorem ldWd {w : World} {b o : Nat} {L : List Value} (h : w.rangeAt b o L) (hl : L.length = 2) : (Instr.loadAt 29 (.pointer (some ⟨b, o, none⟩))).run Try.prog w = .ok (.agg L.toArray) w :=
  run_loadAt_mid w b o 29 L _ h Try.underlying29 rfl (by rw [infoWd, hl])
set_option maxRecDepth 100000 in
set_option maxHeartbeats 2000000 in
theorem keepW_fresh (b : Nat) (G : List Im) (p : Int) (hi lo : Nat) (t : Tn) (w : World) (h : Mm w 29 b G) (hp : I64 p) (h1 : U64 hi) (h2 : U64 lo) (hn : ∀ g ∈ G, g.p ≠ p) :
    Calls Try.prog 46 #[.map (some b), .int .i64 p, wdV hi lo, t.v] w fun e w' => e = .returned (.tuple #[]) ∧ ∃ k, w.heap.size ≤ k ∧ Mm w' 29 b (G ++ [⟨p, k, [(wdV hi lo, t.v)]⟩]) ∧ But (· = b) w w' := by
  obtain ⟨W, hW⟩ : ∃ W, W = (w.alloc (Obj.cells #[.int .u64 (hi : Int), .int .u64 (lo : Int)] 29)).alloc (Obj.cells #[.int .u64 (t.h : Int), .int .u64 (t.l : Int), .int .u64 (t.ph : Int), .int .u64 (t.pl : Int), .int .i64 t.r, .int .i64 t.s] 77) := ⟨_, rfl⟩
  have hB : Below w.heap.size w W := by rw [hW]; exact below2 _ _ _
  have hMW := h.later hB
  obtain ⟨m, hm, h0, -⟩ := hMW.look wkey Try.underlying60 Try.underlying82 zLive zTok hp (kword h1 h2) (r := none) (fun g hg e => absurd e (hn g hg))
  obtain rfl : m = none := by
    cases m with
    | none => rfl
    | some k => obtain ⟨g, hg, e, _⟩ := hm; exact absurd e (hn g hg)
  obtain ⟨w1, w2, r1, r2, r3, m2, b2, s1, b1⟩ := hMW.fresh wkey Try.underlying60 Try.underlying82 hp hn (kword h1 h2) t.v
  have hlW := h.out.lt
  have HLD : Hid ((Instr.loadAt 29 (.pointer (some ⟨w.heap.size, 0, none⟩))).run Try.prog w1 = .ok (wdV hi lo) w1) := by
    have hx : Bx W w.heap.size [.int .u64 (hi : Int), .int .u64 (lo : Int)] := by rw [hW]; exact (Bx.new w [.int .u64 (hi : Int), .int .u64 (lo : Int)] _).later (below1 _ _)
    exact ldWd (hx.but b1 (by omega)).range rfl
  have HLT : Hid ((Instr.loadAt 77 (.pointer (some ⟨w.heap.size + 1, 0, none⟩))).run Try.prog w1 = .ok t.v w1) := by
    have hx : Bx W (w.heap.size + 1) t.L := by rw [hW]; have := Bx.new (w.alloc (Obj.cells #[.int .u64 (hi : Int), .int .u64 (lo : Int)] 29)) t.L 77; simp at this; exact this
    exact ldTn (hx.but b1 (by omega)).range rfl
  have H0 := hid h0
  have HR1 := hid r1
  have HR2 := hid r2
  have HR3 := hid r3
  have HM := hid m2
  have HBt : Hid (But (· = b) w w2) := (But.of hB).trans b2
  have HW := hid hW
  have HS : Hid (w.heap.size ≤ W.heap.size) := hB.size
  have hmk := run_mkMap Try.underlying82 W
  have hnil := nilL W
  clear h0 r1 r2 r3 m2 b2 s1 b1 hW hB hMW h hn hm
  go_enter Try.func46, Try.ntmps46
  go_upto_region 1 with fail
  rw [← HW.out]
  go_wp2_with (first | ((with_reducible refine look_arm H0.out ?_ ?_ ?_); (· rfl); (· rfl)) | ((with_reducible refine upd_arm HR1.out ?_ ?_ ?_ ?_); (· rfl); (· rfl); (· rfl)) | ((with_reducible refine look_arm HR2.out ?_ ?_ ?_); (· rfl); (· rfl)) | ((with_reducible refine ld_arm HLD.out ?_ ?_); (· rfl)) | ((with_reducible refine ld_arm HLT.out ?_ ?_); (· rfl)) | ((with_reducible refine upd_arm HR3.out ?_ ?_ ?_ ?_); (· rfl); (· rfl); (· rfl)))
  exact bodyPost_end (v := .tuple #[]) (by simp [results, Try.results46, go_sem]) rfl ⟨rfl, _, HS.out, HM.out, HBt.out⟩
end Go.Proofs.Yticgammbjcdobaa
