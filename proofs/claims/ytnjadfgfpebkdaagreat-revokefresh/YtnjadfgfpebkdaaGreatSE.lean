import Derived.Test.YtnjadfgfpebkdaaGreatSD
namespace Go.Proofs.YtnjadfgfpebkdaaGreat.S
open Go.RowKit
set_option linter.unusedVariables false

theorem take_range_map (l : List Nat) (p f : Nat) (h : p + f ≤ l.length) : (l.drop p).take f = (List.range f).map fun x => l.getD (p + x) 0 := by
  refine List.ext_getElem (by simp; omega) fun j h1 h2 => ?_
  simp at h2
  simp [List.getElem_take, List.getElem_drop, List.getD_eq_getElem?_getD, List.getElem?_eq_getElem (show p + j < l.length by omega)]
theorem rd_piece {B : Nat → Nat → Nat} {pages data : List Nat} {off k i : Nat} (hb : ∀ j, j < data.length → B (pages.getD (j / 64) 0) (j % 64) = data.getD j 0) (hle : off + k ≤ data.length) (h : pos off k i < off + k) :
    (data.drop off).take (pos off k (i + 1) - off) = (data.drop off).take (pos off k i - off) ++ pgL B (pages.getD (off / 64 + i) 0) (pos off k i % 64) (pos off k (i + 1) - pos off k i) := by
  have h1 := pos_div h
  have h2 := pos_next h
  have h3 := pos_le off k i
  have e1 : pos off k (i + 1) - off = (pos off k i - off) + (pos off k (i + 1) - pos off k i) := by omega
  rw [e1, List.take_add, List.drop_drop, show off + (pos off k i - off) = pos off k i by omega, take_range_map data (pos off k i) (pos off k (i + 1) - pos off k i) (by omega)]
  congr 1
  refine List.map_congr_left fun x hx => ?_
  have hx2 : x < pos off k (i + 1) - pos off k i := by simpa using hx
  have := hb (pos off k i + x) (by omega)
  rw [← this, ← h1]
  congr 2
  · omega
  · omega
/-- Its place among the pages. -/
theorem pg_at {pages data : List Nat} {off k i : Nat} (hl : pages.length = needN data.length) (hle : off + k ≤ data.length) (h : pos off k i < off + k) : off / 64 + i < pages.length := by
  have h1 := pos_div h
  have h2 := pos_le off k i
  unfold needN at hl
  omega
theorem pc_cells {w : World} {base cap c : Nat} {a : Option Addr} {pages : List Nat} {off k i : Nat} (h : w.ownsRow base 155 3 (.slice a c cap) c (pcs pages off k c)) (hi : i < c) :
    ∃ gp, a = some ⟨gp, 0, none⟩ ∧ base ≤ gp ∧ gp < w.heap.size ∧ w.cell? ⟨gp, i * 3, none⟩ = some (.int .i64 ((pages.getD (off / 64 + i) 0 : Nat) : Int)) ∧ w.cell? ⟨gp, i * 3 + 1, none⟩ = some (.int .i64 ((pos off k i % 64 : Nat) : Int)) ∧ w.cell? ⟨gp, i * 3 + 2, none⟩ = some (.int .i64 ((pos off k (i + 1) - pos off k i : Nat) : Int)) := by
  rcases h.2 with ⟨h1, hn⟩ | ⟨g, cp, cur, hv, hg, hh, _⟩
  · omega
  · simp only [Value.slice.injEq] at hv
    obtain ⟨rfl, _, rfl⟩ := hv
    have hc : ∀ j u, (pcs pages off k c)[j]? = some u → w.cell? ⟨g, j, none⟩ = some u := fun j u hu => by
      have := h.cells (g := g) rfl j u hu
      rwa [addr_add0] at this
    have e0 : i * 3 = 3 * i := by omega
    rw [e0]
    refine ⟨g, rfl, hg, (Array.getElem?_eq_some_iff.1 hh).1, hc _ _ ?_, hc _ _ ?_, hc _ _ ?_⟩
    · exact pcs_get pages off k 0 (by omega) c i hi
    · exact pcs_get pages off k 1 (by omega) c i hi
    · exact pcs_get pages off k 2 (by omega) c i hi
set_option maxRecDepth 100000 in
set_option maxHeartbeats 1000000 in
theorem sread_none (s g pb m n room : Nat) (nx : Int) (t : Nat → Bool) (B : Nat → Nat → Nat) (Os : List Ob) (id off k : Int) (w : World) (h : Sto w s g pb m n room nx t B Os) (hi : -9223372036854775808 ≤ id ∧ id < 9223372036854775808) (ho : at? Os id = none) :
    Calls Tryz.prog 62 #[.pointer (some ⟨s, 0, none⟩), .int .i64 id, .int .i64 off, .int .i64 k] w fun e w' => e = .returned (.tuple #[.slice none 0 0, .int .i64 20]) ∧ Below w.heap.size w w' := by
  have hz := zero_of info106
  have H := hid h
  clear h
  go_enter Tryz.func62, Tryz.ntmps62
  go_wp2_with (first | (go_at_call 73; refine (slook_none s g pb m n room nx t B Os id off k _ H.out hi ho).mono ?_; rintro e w1 ⟨rfl, hb⟩; have HB := hid hb; clear hb))
  exact bodyPost_ret (v := .tuple #[.slice none 0 0, .int .i64 20]) (by simp [results, Tryz.results62, go_sem]) rfl ⟨rfl, below_call HB.out (below1 _ _)⟩
set_option maxRecDepth 100000 in
set_option maxHeartbeats 1000000 in
theorem sread_bad (s g pb m n room : Nat) (nx : Int) (t : Nat → Bool) (B : Nat → Nat → Nat) (Os : List Ob) (id off k : Int) (o : Ob) (w : World) (h : Sto w s g pb m n room nx t B Os) (hi : -9223372036854775808 ≤ id ∧ id < 9223372036854775808) (ho : at? Os id = some o) (hb : ¬ rdOk o off k) :
    Calls Tryz.prog 62 #[.pointer (some ⟨s, 0, none⟩), .int .i64 id, .int .i64 off, .int .i64 k] w fun e w' => e = .returned (.tuple #[.slice none 0 0, .int .i64 5]) ∧ Below w.heap.size w w' := by
  have hz := zero_of info106
  have H := hid h
  clear h
  go_enter Tryz.func62, Tryz.ntmps62
  go_wp2_with (first | (go_at_call 73; refine (slook_bad s g pb m n room nx t B Os id off k o _ H.out hi ho hb).mono ?_; rintro e w1 ⟨rfl, hb⟩; have HB := hid hb; clear hb))
  exact bodyPost_ret (v := .tuple #[.slice none 0 0, .int .i64 5]) (by simp [results, Tryz.results62, go_sem]) rfl ⟨rfl, below_call HB.out (below1 _ _)⟩
theorem make_room (k : Nat) (hk : k ≤ 140737488355328) : ∃ Z : Array Value, Z.size = k ∧ ∀ W : World, (Instr.makeSlice 87 (.int .i64 0) (.int .i64 (k : Int))).run Tryz.prog W = .ok (.slice (some ⟨W.heap.size, 0, none⟩) 0 k) (W.alloc (.cells Z 5)) := by
  obtain ⟨i, hi, hz0, hz1, hz2⟩ := info_parts info5
  refine ⟨madeCells (Value.int .u8 0).cells k, size_madeCells _ _, fun W => ?_⟩
  have hr := run_make (P := Tryz.prog) W 87 5 i _ Tryz.underlying87 hi hz0 .i64 .i64 0 (k : Int) (Int.le_refl _) (by omega) (by rw [hz2]; omega) (by omega)
  simp only [Int.toNat_natCast, hz1, Nat.mul_one, Int.toNat_zero] at hr
  exact hr
theorem blk_at {b o k : Nat} (h : Blk (some ⟨b, o, none⟩) k) : k = b := by
  obtain ⟨x, hx, rfl⟩ := h
  cases hx
  rfl
def RdRel (w4 : World) (b0 off k : Nat) (data : List Nat) (v12 v35 : Value) (w' : World) : Prop :=
  ∃ (i m cap : Nat) (a : Option Addr), v12 = .slice a m cap ∧ v35 = .int .i64 (i : Int) ∧ m = pos off k i - off ∧ i ≤ pcN off k ∧ Own w' b0 5 a m cap (u8s ((data.drop off).take m)) ∧ (∀ j, Blk a j → j = b0 ∨ w4.heap.size ≤ j) ∧ But (· = b0) w4 w'
set_option maxRecDepth 100000 in
set_option maxHeartbeats 2000000 in
theorem sread_ok (s g pb m n room : Nat) (nx : Int) (t : Nat → Bool) (B : Nat → Nat → Nat) (Os : List Ob) (id : Int) (off k : Nat) (o : Ob) (w : World) (h : Sto w s g pb m n room nx t B Os) (hi : -9223372036854775808 ≤ id ∧ id < 9223372036854775808) (ho : at? Os id = some o) (hle : off + k ≤ o.data.length) (hk : k ≤ 1024) :
    Calls Tryz.prog 62 #[.pointer (some ⟨s, 0, none⟩), .int .i64 id, .int .i64 (off : Int), .int .i64 (k : Int)] w fun e w' => ∃ a cap, e = .returned (.tuple #[.slice a k cap, .int .i64 0]) ∧ Own w' w.heap.size 5 a k cap (u8s ((o.data.drop off).take k)) ∧ Below w.heap.size w w' := by
  have hz := zero_of info106
  have hz75 := zero_of info155
  have hmem := (at_mem ho).1
  have hbig := h.big o hmem
  have HRow := hid (h.rows o hmem)
  have HLen := hid (h.len o hmem)
  have HByt := hid (h.bytes o hmem)
  have HPg : Hid (∀ p ∈ o.pages, t p = true) := hid (fun p hp => (h.mem hmem hp).1)
  have H := hid h
  have HRK : Hid (rdOk o (off : Int) (k : Int)) := hid (by unfold rdOk; omega)
  have hsl := World.block_lt_of_cell? _ _ h.c0.1
  have hgl := h.arn.glt
  have hpl := h.arn.lt
  obtain ⟨sz, hsz⟩ : ∃ sz, sz = o.data.length := ⟨_, rfl⟩
  obtain ⟨PN, hPN⟩ : ∃ PN, PN = o.pages.length := ⟨_, rfl⟩
  have hP64 : off + k ≤ 64 * o.pages.length := by have := HLen.out; unfold needN at this; omega
  have HP64 := hid hP64
  obtain ⟨Z, hZs, hmk⟩ := make_room k (by omega)
  have HZs := hid hZs
  have HLE := hid hle
  have hb4 : off + k ≤ 4096 := by omega
  clear h hP64 hZs hle
  go_enter Tryz.func62, Tryz.ntmps62
  go_upto_region 5 with (first | (go_at_call 73; refine (slook_ok s g pb m n room nx t B Os id (off : Int) (k : Int) o _ H.out hi ho HRK.out).mono ?_; rintro e w1 ⟨rfl, hb⟩; have HB := hid hb; clear hb))
  have hw1 := HB.out.size
  obtain ⟨w3, hw3⟩ : ∃ w3, w3 = (w1.alloc (Obj.cells #[Value.int .i64 (o.data.length : Int), Value.slice o.adr o.pages.length o.pages.length] 106)).alloc (Obj.cells Z 5) := ⟨_, rfl⟩
  have HB3 : Hid (Below w.heap.size w w3) := hid (by rw [hw3]; exact below_call HB.out (below2 _ _ _))
  have HS3 : Hid (w3.heap.size = w1.heap.size + 2) := hid (by rw [hw3]; simp)
  have HO0 : Hid (Own w3 (w1.heap.size + 1) 5 (some ⟨w1.heap.size + 1, 0, none⟩) 0 k []) := hid (by
    have := World.ownsRow_made (base := w1.heap.size + 1) (size := 1) (e := 5) (w1.alloc (Obj.cells #[Value.int .i64 (o.data.length : Int), Value.slice o.adr o.pages.length o.pages.length] 106)) Z k (by simp) (by unfold maxLen; omega) (by rw [HZs.out]; omega)
    rw [World.size_alloc] at this
    rw [hw3]
    exact ⟨this, fun _ h => (by cases h)⟩)
  have x10a : w3.cell? ⟨w1.heap.size, 0, none⟩ = some (.int .i64 (o.data.length : Int)) := by rw [hw3]; exact cell_later (below1 _ _) (lies_new _ _ _ 0 _ rfl).1
  have x10b : w3.cell? ⟨w1.heap.size, 1, none⟩ = some (.slice o.adr o.pages.length o.pages.length) := by rw [hw3]; exact cell_later (below1 _ _) (lies_new _ _ _ 1 _ rfl).1
  rw [← hw3]
  obtain ⟨b0, hb0⟩ : ∃ b0, b0 = w1.heap.size + 1 := ⟨_, rfl⟩
  rw [← hb0] at HO0
  rw [← hb0]
  have HB0 := hid hb0
  clear hw3 hmk hb0 hz
  go_upto_region 6 with (first | (go_at_call 74; refine (pieces_any (o.data.length : Int) o.adr o.pages off k _ (HRow.out.later HB3.out) HP64.out hb4).mono ?_; rintro e w4 ⟨ap, capp, rfl, OP, hb⟩; have HOP := hid OP; have HB4 := hid hb; clear OP hb))
  clear x10a x10b
  have HA4 := hid ((H.out.arn.later HB3.out).later HB4.out)
  have HC4 := hid (cell_later HB4.out (cell_later HB3.out H.out.c0.1))
  obtain ⟨c, hc⟩ : ∃ c, c = pcN off k := ⟨_, rfl⟩
  rw [← hc] at HOP
  rw [← hc]
  have HCN := hid hc
  have hc64 : c ≤ 4096 := by rw [hc]; unfold pcN; split <;> omega
  clear hc
  go_loopw [12, 35] (RdRel w4 b0 off k o.data) (fun _ v _ => c - ivN v)
  case atStart =>
    refine ⟨0, 0, k, _, rfl, rfl, by rw [pos_zero]; omega, Nat.zero_le _, HO0.out.later HB4.out, fun j hj => .inl (blk_at hj), But.refl _ _⟩
  case round =>
    obtain ⟨i, l, cap, a, rfl, rfl, hl, hin, hO, hBl, hBt⟩ := hrel
    have HL := hid hl
    have HO := hid hO
    have HBl := hid hBl
    have HBt := hid hBt
    have HIN := hid hin
    clear hl hO hBl hBt hin
    have hb0n : b0 ≠ s ∧ b0 ≠ g ∧ b0 ≠ pb := by have := HB0.out; omega
    obtain ⟨hn1, hn2, hn3⟩ := hb0n
    have HA := hid (HA4.out.but HBt.out (Ne.symm hn2) (Ne.symm hn3))
    have xs := cell_but HBt.out HC4.out (Ne.symm hn1)
    by_cases hlt : i < c
    · have hd : decide ((i : Int) < (c : Int)) = true := decide_eq_true (by omega)
      have hpi : pos off k i < off + k := (pos_more off k i).1 (by have := HCN.out; omega)
      obtain ⟨gp, rfl, hg1, hg2, y0, y1, y2⟩ := pc_cells HOP.out hlt
      have hgb : gp ≠ b0 := by have := HB0.out; have := HS3.out; omega
      replace y0 := cell_but HBt.out y0 hgb
      replace y1 := cell_but HBt.out y1 hgb
      replace y2 := cell_but HBt.out y2 hgb
      have hql := pg_at HLen.out HLE.out hpi
      have HNX := hid (rd_piece HByt.out HLE.out hpi)
      have hnx := pos_next hpi
      have hpl2 := pos_le off k i
      obtain ⟨pg, hpg⟩ : ∃ pg, pg = o.pages.getD (off / 64 + i) 0 := ⟨_, rfl⟩
      obtain ⟨st, hst⟩ : ∃ st, st = pos off k i % 64 := ⟨_, rfl⟩
      obtain ⟨f, hf⟩ : ∃ f, f = pos off k (i + 1) - pos off k i := ⟨_, rfl⟩
      have HT : Hid (t pg = true) := hid (HPg.out pg (by rw [hpg, List.getD_eq_getElem?_getD, List.getElem?_eq_getElem hql]; exact List.getElem_mem _))
      have hsf : st + f ≤ 64 := by omega
      rw [← hpg, ← hst, ← hf] at HNX
      rw [← hpg] at y0
      rw [← hst] at y1
      rw [← hf] at y2
      have HLF : Hid (pos off k (i + 1) - off = l + f) := hid (by have := HL.out; omega)
      have hlf : l + f ≤ 4096 := by have := HLF.out; have := pos_le off k (i + 1); omega
      clear hpg hst hf hnx hpl2 hpi hql
      go_upto_region 8 with fail
      obtain ⟨w5, hw5⟩ : ∃ w5, w5 = wr.alloc (Obj.cells #[Value.int .i64 (pg : Int), Value.int .i64 (st : Int), Value.int .i64 (f : Int)] 155) := ⟨_, rfl⟩
      have HB5 : Hid (Below wr.heap.size wr w5) := hid (by rw [hw5]; exact below1 _ _)
      have HS : Hid (∀ W, Below w5.heap.size w5 W → (W.cell? ⟨s, 0, none⟩ = some (.pointer (some ⟨g, 0, none⟩)) ∧ W.cell? ⟨wr.heap.size, 0, none⟩ = some (.int .i64 (pg : Int)) ∧ W.cell? ⟨wr.heap.size, 1, none⟩ = some (.int .i64 (st : Int)) ∧ W.cell? ⟨wr.heap.size, 2, none⟩ = some (.int .i64 (f : Int))) ∧ Below w5.heap.size w5 W) := hid (by
        intro W hW
        refine ⟨⟨cell_later hW (cell_later HB5.out xs), ?_, ?_, ?_⟩, hW⟩ <;> refine cell_later hW ?_ <;> rw [hw5]
        · exact (lies_new _ _ _ 0 _ rfl).1
        · exact (lies_new _ _ _ 1 _ rfl).1
        · exact (lies_new _ _ _ 2 _ rfl).1)
      rw [← hw5]
      have HA5 := hid (HA.out.later HB5.out)
      clear hw5 y0 y1 y2 xs
      go_region_held3 (fun W => (W.cell? ⟨s, 0, none⟩ = some (.pointer (some ⟨g, 0, none⟩)) ∧ W.cell? ⟨wr.heap.size, 0, none⟩ = some (.int .i64 (pg : Int)) ∧ W.cell? ⟨wr.heap.size, 1, none⟩ = some (.int .i64 (st : Int)) ∧ W.cell? ⟨wr.heap.size, 2, none⟩ = some (.int .i64 (f : Int))) ∧ Below w5.heap.size w5 W) (first | exact HS.out _ (Below.refl _ _).drew | exact HS.out _ hb2.out) (first | (go_at_call 104; refine (read_ok g pb n t B pg st f _ (HA5.out.later (Below.refl _ _).drew) HT.out hsf).mono ?_; rintro e w6 ⟨a6, rfl, A6, hb6⟩; have hb2 := hid (below_call (Below.refl w5.heap.size w5).drew hb6)))
      have HB6 := hid (below_call HB5.out hb2.out)
      obtain ⟨a', cap', w7, hrun, hO7, hG⟩ := append_bytes (HO.out.later HB6.out) A6.row (by have := HB6.out.size; have := HBt.out.size; have := HB4.out.size; have := HS3.out; have := HB0.out; omega) (by omega)
      have HRUN := hid hrun
      have HO7 := hid hO7
      have HG := hid hG
      clear hrun hO7 hG A6 hb6
      go_wp2_with (first | (at_builtin; refine wpList_append_known rfl _ _ 87 rfl _ _ rfl rfl _ w7 HRUN.out ?_))
      have hBt6 := HBt.out.call HB6.out
      refine ⟨⟨i + 1, l + f, cap', a', rfl, rfl, HLF.out.symm, by have := HCN.out; omega, ?_, fun j hj => ?_, hBt6.comp HG.out.but (fun j hj => ?_)⟩, by simp [ivN]; omega⟩
      · have e : (o.data.drop off).take (l + f) = (o.data.drop off).take l ++ pgL B pg st f := by
          have := HNX.out
          rw [HLF.out, ← HL.out] at this
          exact this
        rw [e, u8s_append]
        exact HO7.out
      · rcases HG.out.on j hj with h1 | h1
        · exact HBl.out j h1
        · exact .inr (Nat.le_trans hBt6.size h1)
      · exact HBl.out j hj
    · obtain rfl : i = c := by have := HIN.out; have := HCN.out; omega
      have hd : decide ((i : Int) < (i : Int)) = false := by simp
      have HLK : Hid (l = k) := hid (by
        have h1 := HL.out
        rw [HCN.out, pos_end] at h1
        omega)
      clear xs
      go_wp2
      have hlk := HLK.out
      subst hlk
      have hw : Below w.heap.size w wr := But.below (S := (· = b0)) (below_call HB3.out HB4.out) HBt.out (fun j hj => by have := HB0.out; omega)
      refine bodyPost_ret (v := .tuple #[.slice a l cap, .int .i64 0]) (by simp [results, Tryz.results62, go_sem]) rfl ⟨a, cap, rfl, HO.out.mono (by have := HB0.out; omega), hw⟩
end Go.Proofs.YtnjadfgfpebkdaaGreat.S
namespace Go.Proofs.YtnjadfgfpebkdaaGreat.S
open Go.RowKit
set_option linter.unusedVariables false

/-- The list from an element on. -/
theorem slice_from (t e : TypeId) (hu : Tryz.prog.underlying t = some (.slice (Tryz.prog.elem t))) (hs : ∀ W : World, (sizeOf (Tryz.prog.elem t)).run Tryz.prog W = .ok 1 W) (a : Option Addr) (r cap f : Nat) (hf : f ≤ r) :
    ∃ a', (∀ W : World, (Instr.sliceAt t (.slice a r cap) (some (.int .i64 (f : Int))) none none).run Tryz.prog W = .ok (.slice a' (r - f) (cap - f)) W) ∧ (cap = f ∧ a' = a ∨ a' = a.map (·.add f)) := by
  have h : ∀ W : World, (Instr.sliceAt t (.slice a r cap) (some (.int .i64 (f : Int))) none none).run Tryz.prog W = .ok (sliced a f r cap 1) W := fun W => by
    rw [run_sliceAt_slice W t _ _ _ _ hu, run_slice_l W t a r cap hu .i64 (f : Int) (by omega) (by omega), hs]
    simp
  by_cases hc : cap = f
  · exact ⟨a, fun W => by rw [h W]; simp [sliced, hc], .inl ⟨hc, rfl⟩⟩
  · exact ⟨a.map (·.add f), fun W => by rw [h W]; simp [sliced, hc], .inr rfl⟩
theorem add_add (x : Addr) (i j : Nat) : (x.add i).add j = x.add (i + j) := by
  unfold Addr.add
  by_cases hi : i = 0
  · subst hi
    simp
  · by_cases hj : j = 0
    · subst hj
      simp
    · rw [if_neg hi, if_neg hj, if_neg (by omega)]
      simp [Nat.add_assoc]
theorem _root_.Go.Proofs.YtnjadfgfpebkdaaGreat.Row.from {w : World} {a a' : Option Addr} {r cap f : Nat} {L : List Value} (h : Row w a r cap L) (hf : f ≤ r) (ha : cap = f ∧ a' = a ∨ a' = a.map (·.add f)) : Row w a' (r - f) (cap - f) (L.drop f) ∧ ∀ k, Blk a' k → Blk a k := by
  have hc := h.cap_
  rcases ha with ⟨e, rfl⟩ | rfl
  · have hrf : r = f := by omega
    refine ⟨⟨by rw [List.length_drop, h.len], by omega, fun _ => by omega, fun x hx j u hu => ?_, fun u hu => h.one u (List.mem_of_mem_drop hu)⟩, fun _ h => h⟩
    rw [List.drop_of_length_le (by rw [h.len]; omega)] at hu
    cases hu
  · refine ⟨⟨by rw [List.length_drop, h.len], by omega, fun e => ?_, fun x hx j u hu => ?_, fun u hu => h.one u (List.mem_of_mem_drop hu)⟩, fun k hk => ?_⟩
    · cases a with
      | none => have := h.none_ rfl; omega
      | some x => cases e
    · cases a with
      | none => cases hx
      | some y =>
        simp only [Option.map_some, Option.some.injEq] at hx
        subst hx
        rw [add_add]
        exact h.cells y rfl (f + j) u (by rw [← List.getElem?_drop]; exact hu)
    · obtain ⟨x, hx, rfl⟩ := hk
      cases a with
      | none => cases hx
      | some y =>
        simp only [Option.map_some, Option.some.injEq] at hx
        subst hx
        exact ⟨y, rfl, (add_block y f).symm⟩
theorem u8s_drop (L : List Nat) (k : Nat) : (u8s L).drop k = u8s (L.drop k) := by simp [u8s, List.map_drop]
theorem u8s_take (L : List Nat) (k : Nat) : (u8s L).take k = u8s (L.take k) := by simp [u8s, List.map_take]
theorem und30 : Tryz.prog.underlying 87 = some (.slice (Tryz.prog.elem 87)) := by kernel_rfl
theorem size_el30 (W : World) : (sizeOf (Tryz.prog.elem 87)).run Tryz.prog W = .ok 1 W := by
  have e : Tryz.prog.elem 87 = 5 := by kernel_rfl
  obtain ⟨i, hi, hz0, hz1, hz2⟩ := info_parts info5
  rw [e]
  simp [sizeOf, typeInfo, hi, hz1]
/-- What of the bytes is written up to a place. -/
def Wrote (pages : List Nat) (B B' : Nat → Nat → Nat) (off p : Nat) (D : List Nat) : Prop :=
  (∀ j, j < 64 * pages.length → B' (pages.getD (j / 64) 0) (j % 64) = if off ≤ j ∧ j < p then D.getD (j - off) 0 else B (pages.getD (j / 64) 0) (j % 64)) ∧ ∀ q x, ¬ q ∈ pages → B' q x = B q x
theorem wrote_start (pages : List Nat) (B : Nat → Nat → Nat) (off : Nat) (D : List Nat) : Wrote pages B B off off D :=
  ⟨fun j hj => by rw [if_neg (by omega)], fun _ _ _ => rfl⟩
theorem getD_mem {l : List Nat} {i : Nat} (h : i < l.length) : l.getD i 0 ∈ l := by
  rw [List.getD_eq_getElem?_getD, List.getElem?_eq_getElem h]
  exact List.getElem_mem _
theorem getD_inj {l : List Nat} (hn : l.Nodup) {i j : Nat} (hi : i < l.length) (hj : j < l.length) (h : l.getD i 0 = l.getD j 0) : i = j := by
  rw [List.getD_eq_getElem?_getD, List.getD_eq_getElem?_getD, List.getElem?_eq_getElem hi, List.getElem?_eq_getElem hj] at h
  simp only [Option.getD_some] at h
  unfold List.Nodup at hn
  rw [List.pairwise_iff_getElem] at hn
  rcases Nat.lt_trichotomy i j with h1 | h1 | h1
  · exact absurd h (hn i j hi hj h1)
  · exact h1
  · exact absurd h.symm (hn j i hj hi h1)
theorem wrote_next {pages : List Nat} {B B' : Nat → Nat → Nat} {off k i : Nat} {D : List Nat} (hn : pages.Nodup) (hk : D.length = k) (hp : off + k ≤ 64 * pages.length) (h : pos off k i < off + k) (hw : Wrote pages B B' off (pos off k i) D) :
    Wrote pages B (wrB B' (pages.getD (off / 64 + i) 0) (pos off k i % 64) ((D.drop (pos off k i - off)).take (pos off k (i + 1) - pos off k i))) off (pos off k (i + 1)) D := by
  have h1 := pos_div h
  have h2 := pos_next h
  have h3 := pos_le off k i
  have hl : ((D.drop (pos off k i - off)).take (pos off k (i + 1) - pos off k i)).length = pos off k (i + 1) - pos off k i := by
    rw [List.length_take, List.length_drop]
    omega
  generalize pos off k i = p at *
  generalize pos off k (i + 1) = p2 at *
  rw [← h1]
  refine ⟨fun j hj => ?_, fun q x hq => ?_⟩
  · unfold wrB
    rw [hl]
    by_cases e : j / 64 = p / 64
    · rw [e]
      by_cases e2 : p ≤ j ∧ j < p2
      · rw [if_pos ⟨rfl, by omega, by omega⟩, if_pos (by omega)]
        rw [List.getD_eq_getElem?_getD, List.getElem?_take, if_pos (by omega), List.getElem?_drop, List.getD_eq_getElem?_getD]
        congr 2
        omega
      · rw [if_neg (by omega)]
        have := hw.1 j hj
        rw [e] at this
        rw [this]
        by_cases e3 : off ≤ j ∧ j < p
        · rw [if_pos e3, if_pos (by omega)]
        · rw [if_neg e3, if_neg (by omega)]
    · rw [if_neg (fun e2 => e (getD_inj hn (by omega) (by omega) e2.1)), hw.1 j hj]
      by_cases e3 : off ≤ j ∧ j < p
      · rw [if_pos e3, if_pos (by omega)]
      · rw [if_neg e3, if_neg (by omega)]
  · unfold wrB
    rw [if_neg (fun e => hq (by rw [e.1]; exact getD_mem (by omega)))]
    exact hw.2 q x hq
/-- The object behind a write. -/
def putL (L D : List Nat) (off : Nat) : List Nat := L.take off ++ D ++ L.drop (off + D.length)
theorem putL_length {L D : List Nat} {off : Nat} (h : off + D.length ≤ L.length) : (putL L D off).length = L.length := by
  simp [putL]
  omega
theorem putL_get {L D : List Nat} {off : Nat} (h : off + D.length ≤ L.length) (j : Nat) : (putL L D off).getD j 0 = if off ≤ j ∧ j < off + D.length then D.getD (j - off) 0 else L.getD j 0 := by
  unfold putL
  simp only [List.getD_eq_getElem?_getD]
  have hl : (L.take off).length = off := by rw [List.length_take]; omega
  by_cases h1 : j < off
  · rw [if_neg (by omega), List.append_assoc, List.getElem?_append_left (by omega), List.getElem?_take, if_pos h1]
  · by_cases h2 : j < off + D.length
    · rw [if_pos (by omega), List.append_assoc, List.getElem?_append_right (by omega), List.getElem?_append_left (by omega), hl]
    · rw [if_neg (by omega), List.getElem?_append_right (by rw [List.length_append, hl]; omega), List.getElem?_drop, List.length_append, hl]
      congr 2
      omega
def setO (id : Int) (off : Nat) (D : List Nat) (o : Ob) : Ob := if o.id = id then { o with data := putL o.data D off } else o
theorem setO_id (id : Int) (off : Nat) (D : List Nat) (o : Ob) : (setO id off D o).id = o.id := by unfold setO; split <;> rfl
theorem setO_pages (id : Int) (off : Nat) (D : List Nat) (o : Ob) : (setO id off D o).pages = o.pages := by unfold setO; split <;> rfl
theorem setO_adr (id : Int) (off : Nat) (D : List Nat) (o : Ob) : (setO id off D o).adr = o.adr := by unfold setO; split <;> rfl
theorem allP_setO (id : Int) (off : Nat) (D : List Nat) (Os : List Ob) : allP (Os.map (setO id off D)) = allP Os := by
  unfold allP
  rw [List.flatMap_map]
  congr 1
  funext o
  exact setO_pages id off D o
theorem at_uniq {Os : List Ob} {id : Int} {o p : Ob} (hr : Os.Pairwise (fun a b => a.id < b.id)) (ho : at? Os id = some o) (hp : p ∈ Os) (e : p.id = id) : p = o := by
  have hom := at_mem ho
  obtain ⟨i, hi, rfl⟩ := List.getElem_of_mem hp
  obtain ⟨j, hj, rfl⟩ := List.getElem_of_mem hom.1
  rw [List.pairwise_iff_getElem] at hr
  have hij : i = j := by
    rcases Nat.lt_trichotomy i j with h | h | h
    · have := hr i j hi hj h; have := hom.2; omega
    · exact h
    · have := hr j i hj hi h; have := hom.2; omega
  subst hij
  rfl
theorem nodup_flat : ∀ {Os : List Ob}, (allP Os).Nodup → (∀ o ∈ Os, o.pages.Nodup) ∧ ∀ o ∈ Os, ∀ p ∈ Os, o.id ≠ p.id → ∀ x, x ∈ o.pages → ¬ x ∈ p.pages
  | [], _ => ⟨fun _ h => (by cases h), fun _ h => (by cases h)⟩
  | a :: r, h => by
    have h2 : (a.pages ++ allP r).Nodup := by simpa [allP] using h
    rw [List.nodup_append] at h2
    obtain ⟨n1, n2, n3⟩ := h2
    obtain ⟨i1, i2⟩ := nodup_flat n2
    refine ⟨fun o ho => ?_, fun o ho p hp hne x hx hy => ?_⟩
    · rcases List.mem_cons.1 ho with rfl | h
      · exact n1
      · exact i1 o h
    · rcases List.mem_cons.1 ho with rfl | h1
      · rcases List.mem_cons.1 hp with rfl | h2
        · exact hne rfl
        · exact n3 x hx x (List.mem_flatMap.2 ⟨p, h2, hy⟩) rfl
      · rcases List.mem_cons.1 hp with rfl | h2
        · exact n3 x hy x (List.mem_flatMap.2 ⟨o, h1, hx⟩) rfl
        · exact i2 o h1 p h2 hne x hx hy
theorem mapD_setO {Os : List Ob} {id : Int} {off : Nat} {D : List Nat} (h : ∀ o ∈ Os, o.id = id → off + D.length ≤ o.data.length) : mapD (Os.map (setO id off D)) = mapD Os := by
  unfold mapD
  rw [List.map_map]
  congr 1
  refine List.map_congr_left fun o ho => ?_
  simp only [Function.comp, ent, setO_id]
  congr 2
  unfold Ob.val
  rw [setO_pages, setO_adr]
  have e : (setO id off D o).data.length = o.data.length := by
    unfold setO
    split
    · exact putL_length (h o ho (by assumption))
    · rfl
  rw [e]
theorem rise_setO (id : Int) (off : Nat) (D : List Nat) {Os : List Ob} (h : Os.Pairwise (fun a b => a.id < b.id)) : Os.Pairwise (fun a b => (setO id off D a).id < (setO id off D b).id) := by
  simp only [setO_id]
  exact h
/-- The store behind a write. -/
theorem Sto.write {w w' : World} {s g pb m n room : Nat} {nx : Int} {t : Nat → Bool} {B B' : Nat → Nat → Nat} {Os : List Ob} {id : Int} {o : Ob} {off : Nat} {D : List Nat} (h : Sto w s g pb m n room nx t B Os) (ho : at? Os id = some o) (hle : off + D.length ≤ o.data.length)
    (hA : Arn w' g pb n t B') (hW : Wrote o.pages B B' off (off + D.length) D) (hb : But (· = pb) w w') : Sto w' s g pb m n room nx t B' (Os.map (setO id off D)) := by
  have hm := at_mem ho
  have hall : ∀ p ∈ Os, p.id = id → off + D.length ≤ p.data.length := fun p hp e => by rw [at_uniq h.rise ho hp e]; exact hle
  obtain ⟨n1, n2⟩ := nodup_flat h.nd
  have hmem : ∀ q ∈ Os.map (setO id off D), ∃ p ∈ Os, q = setO id off D p := fun q hq => by
    obtain ⟨p, hp, e⟩ := List.mem_map.1 hq
    exact ⟨p, hp, e.symm⟩
  have hdl : ∀ p ∈ Os, (setO id off D p).data.length = p.data.length := fun p hp => by
    unfold setO
    split
    · exact putL_length (hall p hp (by assumption))
    · rfl
  refine ⟨hA, h.c0.but hb h.sp, h.c1.but hb h.sp, h.c2.but hb h.sp, h.c3.but hb h.sp, ?_, h.sg, h.sp, h.sm, h.gm, h.pm, fun q hq => ?_, fun q hq k hk => ?_, fun q hq => ?_, by rw [allP_setO]; exact h.nd, fun i => by rw [allP_setO]; exact h.tks i, fun q hq j hj => ?_, ?_, fun q hq => ?_, h.nx1, by rw [List.length_map]; exact h.rm, fun q hq => ?_⟩
  · rw [List.length_map, mapD_setO hall]
    exact owns_but hb h.map (fun e => h.pm e.symm)
  · obtain ⟨p, hp, rfl⟩ := hmem q hq
    rw [setO_adr, setO_pages]
    exact (h.rows p hp).but hb (fun k hk => (h.off p hp k hk).2.2.1)
  · obtain ⟨p, hp, rfl⟩ := hmem q hq
    rw [setO_adr] at hk
    obtain ⟨a1, a2, a3, a4, a5⟩ := h.off p hp k hk
    exact ⟨a1, a2, a3, a4, Nat.lt_of_lt_of_le a5 hb.size⟩
  · obtain ⟨p, hp, rfl⟩ := hmem q hq
    rw [setO_pages, hdl p hp]
    exact h.len p hp
  · obtain ⟨p, hp, rfl⟩ := hmem q hq
    rw [hdl p hp] at hj
    rw [setO_pages]
    have hlp := h.len p hp
    have hq : j / 64 < p.pages.length := by unfold needN at hlp; omega
    by_cases e : p.id = id
    · obtain rfl := at_uniq h.rise ho hp e
      unfold setO
      rw [if_pos e, hW.1 j (by omega), putL_get hle j, h.bytes p hp j hj]
    · rw [hW.2 _ _ (n2 p hp o hm.1 (by rw [hm.2]; exact e) _ (getD_mem hq)), h.bytes p hp j hj]
      unfold setO
      rw [if_neg e]
  · rw [List.pairwise_map]
    exact rise_setO id off D h.rise
  · obtain ⟨p, hp, rfl⟩ := hmem q hq
    rw [setO_id]
    exact h.ids p hp
  · obtain ⟨p, hp, rfl⟩ := hmem q hq
    rw [hdl p hp]
    exact h.big p hp
end Go.Proofs.YtnjadfgfpebkdaaGreat.S
namespace Go.Proofs.YtnjadfgfpebkdaaGreat.S
open Go.RowKit
set_option linter.unusedVariables false

set_option maxRecDepth 100000 in
set_option maxHeartbeats 1000000 in
theorem swrite_none (s g pb m n room : Nat) (nx : Int) (t : Nat → Bool) (B : Nat → Nat → Nat) (Os : List Ob) (id off : Int) (da : Option Addr) (k cd : Nat) (w : World) (h : Sto w s g pb m n room nx t B Os) (hi : -9223372036854775808 ≤ id ∧ id < 9223372036854775808) (ho : at? Os id = none) :
    Calls Tryz.prog 34 #[.pointer (some ⟨s, 0, none⟩), .int .i64 id, .int .i64 off, .slice da k cd] w fun e w' => e = .returned (.int .i64 20) ∧ Below w.heap.size w w' := by
  have hz := zero_of info106
  have H := hid h
  clear h
  go_enter Tryz.func34, Tryz.ntmps34
  go_wp2_with (first | (go_at_call 73; refine (slook_none s g pb m n room nx t B Os id off (k : Int) _ H.out hi ho).mono ?_; rintro e w1 ⟨rfl, hb⟩; have HB := hid hb; clear hb))
  go_ret
  exact ⟨rfl, below_call HB.out (below1 _ _)⟩
set_option maxRecDepth 100000 in
set_option maxHeartbeats 1000000 in
theorem swrite_bad (s g pb m n room : Nat) (nx : Int) (t : Nat → Bool) (B : Nat → Nat → Nat) (Os : List Ob) (id off : Int) (o : Ob) (da : Option Addr) (k cd : Nat) (w : World) (h : Sto w s g pb m n room nx t B Os) (hi : -9223372036854775808 ≤ id ∧ id < 9223372036854775808) (ho : at? Os id = some o) (hb : ¬ rdOk o off (k : Int)) :
    Calls Tryz.prog 34 #[.pointer (some ⟨s, 0, none⟩), .int .i64 id, .int .i64 off, .slice da k cd] w fun e w' => e = .returned (.int .i64 5) ∧ Below w.heap.size w w' := by
  have hz := zero_of info106
  have H := hid h
  clear h
  go_enter Tryz.func34, Tryz.ntmps34
  go_wp2_with (first | (go_at_call 73; refine (slook_bad s g pb m n room nx t B Os id off (k : Int) o _ H.out hi ho hb).mono ?_; rintro e w1 ⟨rfl, hb⟩; have HB := hid hb; clear hb))
  go_ret
  exact ⟨rfl, below_call HB.out (below1 _ _)⟩
def WrRel (w4 : World) (g pb n : Nat) (t : Nat → Bool) (B : Nat → Nat → Nat) (pages : List Nat) (off k : Nat) (da : Option Addr) (D : List Nat) (v3 v31 : Value) (w' : World) : Prop :=
  ∃ (i r cd : Nat) (ad : Option Addr) (B' : Nat → Nat → Nat), v3 = .slice ad r cd ∧ v31 = .int .i64 (i : Int) ∧ r = off + k - pos off k i ∧ i ≤ pcN off k ∧ Row w' ad r cd (u8s (D.drop (pos off k i - off))) ∧ (∀ j, Blk ad j → Blk da j) ∧ Arn w' g pb n t B' ∧ Wrote pages B B' off (pos off k i) D ∧ But (· = pb) w4 w'
set_option maxRecDepth 100000 in
set_option maxHeartbeats 2000000 in
theorem swrite_ok (s g pb m n room : Nat) (nx : Int) (t : Nat → Bool) (B : Nat → Nat → Nat) (Os : List Ob) (id : Int) (off : Nat) (o : Ob) (da : Option Addr) (k cd : Nat) (D : List Nat) (w : World) (h : Sto w s g pb m n room nx t B Os) (hi : -9223372036854775808 ≤ id ∧ id < 9223372036854775808) (ho : at? Os id = some o) (hle : off + k ≤ o.data.length) (hk : k ≤ 1024) (hR : Row w da k cd (u8s D)) (hD : ∀ x ∈ D, x < 256) (hap : 0 < k → ∀ j, Blk da j → j ≠ pb) :
    Calls Tryz.prog 34 #[.pointer (some ⟨s, 0, none⟩), .int .i64 id, .int .i64 (off : Int), .slice da k cd] w fun e w' => ∃ B', e = .returned (.int .i64 0) ∧ Sto w' s g pb m n room nx t B' (Os.map (setO id off D)) ∧ But (· = pb) w w' := by
  have hz := zero_of info106
  have hz75 := zero_of info155
  have hmem := (at_mem ho).1
  have hbig := h.big o hmem
  have HRow := hid (h.rows o hmem)
  have HLen := hid (h.len o hmem)
  have HPg : Hid (∀ p ∈ o.pages, t p = true) := hid (fun p hp => (h.mem hmem hp).1)
  have HND := hid ((nodup_flat h.nd).1 o hmem)
  have H := hid h
  have HRK : Hid (rdOk o (off : Int) (k : Int)) := hid (by unfold rdOk; omega)
  have hsl := World.block_lt_of_cell? _ _ h.c0.1
  have hgl := h.arn.glt
  have hpl := h.arn.lt
  have hsp := h.sp
  have hDl : D.length = k := by have := hR.len; rwa [u8s_length] at this
  have HDL := hid hDl
  have hP64 : off + k ≤ 64 * o.pages.length := by have := HLen.out; unfold needN at this; omega
  have HP64 := hid hP64
  have HLE := hid hle
  have HR := hid hR
  have HD := hid hD
  have HAP := hid hap
  have hb4 : off + k ≤ 4096 := by omega
  clear h hP64 hle hR hD hap hDl
  go_enter Tryz.func34, Tryz.ntmps34
  go_upto_region 4 with (first | (go_at_call 73; refine (slook_ok s g pb m n room nx t B Os id (off : Int) (k : Int) o _ H.out hi ho HRK.out).mono ?_; rintro e w1 ⟨rfl, hb⟩; have HB := hid hb; clear hb))
  obtain ⟨w3, hw3⟩ : ∃ w3, w3 = w1.alloc (Obj.cells #[Value.int .i64 (o.data.length : Int), Value.slice o.adr o.pages.length o.pages.length] 106) := ⟨_, rfl⟩
  have HB3 : Hid (Below w.heap.size w w3) := hid (by rw [hw3]; exact below_call HB.out (below1 _ _))
  have x10a : w3.cell? ⟨w1.heap.size, 0, none⟩ = some (.int .i64 (o.data.length : Int)) := by rw [hw3]; exact (lies_new _ _ _ 0 _ rfl).1
  have x10b : w3.cell? ⟨w1.heap.size, 1, none⟩ = some (.slice o.adr o.pages.length o.pages.length) := by rw [hw3]; exact (lies_new _ _ _ 1 _ rfl).1
  rw [← hw3]
  clear hw3 hz
  go_upto_region 5 with (first | (go_at_call 74; refine (pieces_any (o.data.length : Int) o.adr o.pages off k _ (HRow.out.later HB3.out) HP64.out hb4).mono ?_; rintro e w4 ⟨ap, capp, rfl, OP, hb⟩; have HOP := hid OP; have HB4 := hid hb; clear OP hb))
  clear x10a x10b
  have HH4 := hid ((H.out.later HB3.out).later HB4.out)
  have HR4 := hid ((HR.out.later HB3.out).later HB4.out)
  obtain ⟨c, hc⟩ : ∃ c, c = pcN off k := ⟨_, rfl⟩
  rw [← hc] at HOP
  rw [← hc]
  have HCN := hid hc
  have hc64 : c ≤ 4096 := by rw [hc]; unfold pcN; split <;> omega
  have hs3 := HB3.out.size
  clear hc
  go_loopw [3, 31] (WrRel w4 g pb n t B o.pages off k da D) (fun _ v _ => c - ivN v)
  case atStart =>
    exact ⟨0, k, cd, da, B, rfl, rfl, by rw [pos_zero]; omega, Nat.zero_le _, by rw [pos_zero, Nat.sub_self]; exact HR4.out, fun _ h => h, HH4.out.arn, by rw [pos_zero]; exact wrote_start _ _ _ _, But.refl _ _⟩
  case round =>
    obtain ⟨i, r, cq, ad, B1, rfl, rfl, hr, hin, hRr, hBl, hA, hW, hBt⟩ := hrel
    have HRR := hid hr
    have HRr := hid hRr
    have HBl := hid hBl
    have HA := hid hA
    have HW := hid hW
    have HBt := hid hBt
    have HIN := hid hin
    clear hr hRr hBl hA hW hBt hin
    have xs := cell_but HBt.out HH4.out.c0.1 hsp
    by_cases hlt : i < c
    · have hd : decide ((i : Int) < (c : Int)) = true := decide_eq_true (by omega)
      have hpi : pos off k i < off + k := (pos_more off k i).1 (by have := HCN.out; omega)
      obtain ⟨gp, rfl, hg1, hg2, y0, y1, y2⟩ := pc_cells HOP.out hlt
      have hgb : gp ≠ pb := by omega
      replace y0 := cell_but HBt.out y0 hgb
      replace y1 := cell_but HBt.out y1 hgb
      replace y2 := cell_but HBt.out y2 hgb
      have hql := pg_at HLen.out HLE.out hpi
      have HNX := hid (wrote_next HND.out HDL.out HP64.out hpi HW.out)
      have hnx := pos_next hpi
      have hpl2 := pos_le off k i
      obtain ⟨pg, hpg⟩ : ∃ pg, pg = o.pages.getD (off / 64 + i) 0 := ⟨_, rfl⟩
      obtain ⟨st, hst⟩ : ∃ st, st = pos off k i % 64 := ⟨_, rfl⟩
      obtain ⟨f, hf⟩ : ∃ f, f = pos off k (i + 1) - pos off k i := ⟨_, rfl⟩
      have HT : Hid (t pg = true) := hid (HPg.out pg (by rw [hpg]; exact getD_mem hql))
      have hsf : st + f ≤ 64 := by omega
      have hfr : f ≤ r := by have := HRR.out; omega
      rw [← hpg, ← hst, ← hf] at HNX
      rw [← hpg] at y0
      rw [← hst] at y1
      rw [← hf] at y2
      have HLF : Hid (off + k - pos off k (i + 1) = r - f ∧ pos off k (i + 1) - off = pos off k i - off + f) := hid (by have := HRR.out; omega)
      have hr4 : r ≤ 4096 := by have := HRR.out; omega
      have hcq := HRr.out.cap_
      obtain ⟨a2, hcut, ha2⟩ := slice_from 87 5 und30 size_el30 ad r cq f hfr
      obtain ⟨hR2, hBl2⟩ := HRr.out.from hfr ha2
      have HR2 := hid hR2
      have HBl2 := hid hBl2
      have hc0 : (0 : Int) ≤ (f : Int) := by omega
      have hc1 : (f : Int) ≤ (cq : Int) := by omega
      have HRf : Hid (Row wr ad f cq (u8s ((D.drop (pos off k i - off)).take f))) := hid (by
        have := HRr.out.sub (m := f) (c := cq) hfr (by omega) (fun e => (HRr.out.none_ e).2)
        rwa [u8s_take] at this)
      have HDs : Hid (∀ x ∈ (D.drop (pos off k i - off)).take f, x < 256) := hid (fun x hx => HD.out x (List.mem_of_mem_drop (List.mem_of_mem_take hx)))
      have HK0 : Hid (0 < k) := hid (by omega)
      clear hpg hst hf hnx hpl2 hpi hql hR2 hBl2 ha2
      go_upto_region 7 with fail
      obtain ⟨w5, hw5⟩ : ∃ w5, w5 = wr.alloc (Obj.cells #[Value.int .i64 (pg : Int), Value.int .i64 (st : Int), Value.int .i64 (f : Int)] 155) := ⟨_, rfl⟩
      have HB5 : Hid (Below wr.heap.size wr w5) := hid (by rw [hw5]; exact below1 _ _)
      have hwp : wr.heap.size ≠ pb := by have := HBt.out.size; omega
      have HS : Hid (∀ W, But (· = pb) w5 W → (W.cell? ⟨s, 0, none⟩ = some (.pointer (some ⟨g, 0, none⟩)) ∧ W.cell? ⟨wr.heap.size, 0, none⟩ = some (.int .i64 (pg : Int)) ∧ W.cell? ⟨wr.heap.size, 1, none⟩ = some (.int .i64 (st : Int)) ∧ W.cell? ⟨wr.heap.size, 2, none⟩ = some (.int .i64 (f : Int))) ∧ But (· = pb) w5 W) := hid (by
        intro W hW
        refine ⟨⟨cell_but hW (cell_later HB5.out xs) hsp, ?_, ?_, ?_⟩, hW⟩ <;> refine cell_but hW ?_ hwp <;> rw [hw5]
        · exact (lies_new _ _ _ 0 _ rfl).1
        · exact (lies_new _ _ _ 1 _ rfl).1
        · exact (lies_new _ _ _ 2 _ rfl).1)
      rw [← hw5]
      have HA5 := hid (HA.out.later HB5.out)
      have HR5 := hid (HRf.out.later HB5.out)
      clear hw5 y0 y1 y2 xs
      have HCUT := hid hcut
      clear hcut
      go_region_held3 (fun W => (W.cell? ⟨s, 0, none⟩ = some (.pointer (some ⟨g, 0, none⟩)) ∧ W.cell? ⟨wr.heap.size, 0, none⟩ = some (.int .i64 (pg : Int)) ∧ W.cell? ⟨wr.heap.size, 1, none⟩ = some (.int .i64 (st : Int)) ∧ W.cell? ⟨wr.heap.size, 2, none⟩ = some (.int .i64 (f : Int))) ∧ But (· = pb) w5 W) (first | exact HS.out _ (But.of (Below.refl _ _).drew) | exact HS.out _ hb2.out) (first | (go_at_call 75; refine (write_ok g pb n t B1 pg st _ f cq _ _ (HA5.out.later (Below.refl _ _).drew) HT.out hsf HDs.out (HR5.out.later (Below.refl _ _).drew)).mono ?_; rintro e w6 ⟨rfl, A6, hb6⟩; have hb2 := hid ((But.of (S := (· = pb)) (Below.refl w5.heap.size w5).drew).trans hb6)))
      have z2 := (HS.out _ hb2.out).1.2.2.2
      have hcut := HCUT.out w6
      have HA6 := hid A6
      have HBw := hid (((HBt.out.call HB5.out).trans hb2.out))
      clear A6 hb6
      go_wp2
      refine ⟨⟨i + 1, r - f, cq - f, a2, _, rfl, rfl, HLF.out.1.symm, by have := HCN.out; omega, ?_, fun j hj => HBl.out j (HBl2.out j hj), HA6.out, HNX.out, HBw.out⟩, by simp [ivN]; omega⟩
      have e : u8s (D.drop (pos off k (i + 1) - off)) = (u8s (D.drop (pos off k i - off))).drop f := by rw [u8s_drop, List.drop_drop, HLF.out.2]
      rw [e]
      exact (HR2.out.later HB5.out).but hb2.out (fun j hj => HAP.out HK0.out j (HBl.out j (HBl2.out j hj)))
    · obtain rfl : i = c := by have := HIN.out; have := HCN.out; omega
      have hd : decide ((i : Int) < (i : Int)) = false := by simp
      have HPE : Hid (pos off k i = off + k) := hid (by rw [HCN.out]; exact pos_end off k)
      clear xs
      go_wp2
      go_ret
      have hW := HW.out
      rw [HPE.out, ← HDL.out] at hW
      refine ⟨B1, rfl, HH4.out.write ho (by rw [HDL.out]; exact HLE.out) HA.out hW HBt.out, ?_⟩
      exact (But.of (below_call HB3.out HB4.out)).trans HBt.out
end Go.Proofs.YtnjadfgfpebkdaaGreat.S
