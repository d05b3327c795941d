import Derived.Test.YtejkbeeffllpfaaK4
namespace Go.Proofs.Ytejkbeeffllpfaa
open Go.RowKit
set_option linter.unusedVariables false

theorem take_range_map (l : List Nat) (p f : Nat) (h : p + f ≤ l.length) : (l.drop p).take f = (List.range f).map fun x => l.getD (p + x) 0 := by
  refine List.ext_getElem (by simp; omega) fun j h1 h2 => ?_
  simp at h2
  simp [List.getElem_take, List.getElem_drop, List.getD_eq_getElem?_getD, List.getElem?_eq_getElem (show p + j < l.length by omega)]
theorem rd_piece {B : Nat → Nat → Nat} {pages data : List Nat} {off k i : Nat} (hb : ∀ j, j < data.length → B (pages.getD (j / 64) 0) (j % 64) = data.getD j 0) (hle : off + k ≤ data.length) (h : pos off k i < off + k) :
    (data.drop off).take (pos off k (i + 1) - off) = (data.drop off).take (pos off k i - off) ++ pgL B (pages.getD (off / 64 + i) 0) (pos off k i % 64) (pos off k (i + 1) - pos off k i) := by
  have h1 := pos_div h
  have h2 := pos_next h
  have h3 := pos_le off k i
  have e1 : pos off k (i + 1) - off = (pos off k i - off) + (pos off k (i + 1) - pos off k i) := by omega
  rw [e1, List.take_add, List.drop_drop, show off + (pos off k i - off) = pos off k i by omega, take_range_map data (pos off k i) (pos off k (i + 1) - pos off k i) (by omega)]
  congr 1
  refine List.map_congr_left fun x hx => ?_
  have hx2 : x < pos off k (i + 1) - pos off k i := by simpa using hx
  have := hb (pos off k i + x) (by omega)
  rw [← this, ← h1]
  congr 2
  · omega
  · omega
/-- Its place among the pages. -/
theorem pg_at {pages data : List Nat} {off k i : Nat} (hl : pages.length = needN data.length) (hle : off + k ≤ data.length) (h : pos off k i < off + k) : off / 64 + i < pages.length := by
  have h1 := pos_div h
  have h2 := pos_le off k i
  unfold needN at hl
  omega
theorem pc_cells {w : World} {base cap c : Nat} {a : Option Addr} {pages : List Nat} {off k i : Nat} (h : w.ownsRow base 75 3 (.slice a c cap) c (pcs pages off k c)) (hi : i < c) :
    ∃ gp, a = some ⟨gp, 0, none⟩ ∧ base ≤ gp ∧ gp < w.heap.size ∧ w.cell? ⟨gp, i * 3, none⟩ = some (.int .i64 ((pages.getD (off / 64 + i) 0 : Nat) : Int)) ∧ w.cell? ⟨gp, i * 3 + 1, none⟩ = some (.int .i64 ((pos off k i % 64 : Nat) : Int)) ∧ w.cell? ⟨gp, i * 3 + 2, none⟩ = some (.int .i64 ((pos off k (i + 1) - pos off k i : Nat) : Int)) := by
  rcases h.2 with ⟨h1, hn⟩ | ⟨g, cp, cur, hv, hg, hh, _⟩
  · omega
  · simp only [Value.slice.injEq] at hv
    obtain ⟨rfl, _, rfl⟩ := hv
    have hc : ∀ j u, (pcs pages off k c)[j]? = some u → w.cell? ⟨g, j, none⟩ = some u := fun j u hu => by
      have := h.cells (g := g) rfl j u hu
      rwa [addr_add0] at this
    have e0 : i * 3 = 3 * i := by omega
    rw [e0]
    refine ⟨g, rfl, hg, (Array.getElem?_eq_some_iff.1 hh).1, hc _ _ ?_, hc _ _ ?_, hc _ _ ?_⟩
    · exact pcs_get pages off k 0 (by omega) c i hi
    · exact pcs_get pages off k 1 (by omega) c i hi
    · exact pcs_get pages off k 2 (by omega) c i hi
set_option maxRecDepth 100000 in
set_option maxHeartbeats 1000000 in
theorem sread_none (s g pb m n room : Nat) (nx : Int) (t : Nat → Bool) (B : Nat → Nat → Nat) (Os : List Ob) (id off k : Int) (w : World) (h : Sto w s g pb m n room nx t B Os) (hi : -9223372036854775808 ≤ id ∧ id < 9223372036854775808) (ho : at? Os id = none) :
    Calls Try.prog 10 #[.pointer (some ⟨s, 0, none⟩), .int .i64 id, .int .i64 off, .int .i64 k] w fun e w' => e = .returned (.tuple #[.slice none 0 0, .int .i64 20]) ∧ Below w.heap.size w w' := by
  have hz := zero_of info69
  have H := hid h
  clear h
  go_enter Try.func10, Try.ntmps10
  go_wp2_with (first | (go_at_call 28; refine (slook_none s g pb m n room nx t B Os id off k _ H.out hi ho).mono ?_; rintro e w1 ⟨rfl, hb⟩; have HB := hid hb; clear hb))
  exact bodyPost_ret (v := .tuple #[.slice none 0 0, .int .i64 20]) (by simp [results, Try.results10, go_sem]) rfl ⟨rfl, below_call HB.out (below1 _ _)⟩
set_option maxRecDepth 100000 in
set_option maxHeartbeats 1000000 in
theorem sread_bad (s g pb m n room : Nat) (nx : Int) (t : Nat → Bool) (B : Nat → Nat → Nat) (Os : List Ob) (id off k : Int) (o : Ob) (w : World) (h : Sto w s g pb m n room nx t B Os) (hi : -9223372036854775808 ≤ id ∧ id < 9223372036854775808) (ho : at? Os id = some o) (hb : ¬ rdOk o off k) :
    Calls Try.prog 10 #[.pointer (some ⟨s, 0, none⟩), .int .i64 id, .int .i64 off, .int .i64 k] w fun e w' => e = .returned (.tuple #[.slice none 0 0, .int .i64 5]) ∧ Below w.heap.size w w' := by
  have hz := zero_of info69
  have H := hid h
  clear h
  go_enter Try.func10, Try.ntmps10
  go_wp2_with (first | (go_at_call 28; refine (slook_bad s g pb m n room nx t B Os id off k o _ H.out hi ho hb).mono ?_; rintro e w1 ⟨rfl, hb⟩; have HB := hid hb; clear hb))
  exact bodyPost_ret (v := .tuple #[.slice none 0 0, .int .i64 5]) (by simp [results, Try.results10, go_sem]) rfl ⟨rfl, below_call HB.out (below1 _ _)⟩
theorem make_room (k : Nat) (hk : k ≤ 140737488355328) : ∃ Z : Array Value, Z.size = k ∧ ∀ W : World, (Instr.makeSlice 30 (.int .i64 0) (.int .i64 (k : Int))).run Try.prog W = .ok (.slice (some ⟨W.heap.size, 0, none⟩) 0 k) (W.alloc (.cells Z 5)) := by
  obtain ⟨i, hi, hz0, hz1, hz2⟩ := info_parts info5
  refine ⟨madeCells (Value.int .u8 0).cells k, size_madeCells _ _, fun W => ?_⟩
  have hr := run_make (P := Try.prog) W 30 5 i _ Try.underlying30 hi hz0 .i64 .i64 0 (k : Int) (Int.le_refl _) (by omega) (by rw [hz2]; omega) (by omega)
  simp only [Int.toNat_natCast, hz1, Nat.mul_one, Int.toNat_zero] at hr
  exact hr
theorem blk_at {b o k : Nat} (h : Blk (some ⟨b, o, none⟩) k) : k = b := by
  obtain ⟨x, hx, rfl⟩ := h
  cases hx
  rfl
def RdRel (w4 : World) (b0 off k : Nat) (data : List Nat) (v12 v35 : Value) (w' : World) : Prop :=
  ∃ (i m cap : Nat) (a : Option Addr), v12 = .slice a m cap ∧ v35 = .int .i64 (i : Int) ∧ m = pos off k i - off ∧ i ≤ pcN off k ∧ Own w' b0 5 a m cap (u8s ((data.drop off).take m)) ∧ (∀ j, Blk a j → j = b0 ∨ w4.heap.size ≤ j) ∧ But (· = b0) w4 w'
set_option maxRecDepth 100000 in
set_option maxHeartbeats 2000000 in
theorem sread_ok (s g pb m n room : Nat) (nx : Int) (t : Nat → Bool) (B : Nat → Nat → Nat) (Os : List Ob) (id : Int) (off k : Nat) (o : Ob) (w : World) (h : Sto w s g pb m n room nx t B Os) (hi : -9223372036854775808 ≤ id ∧ id < 9223372036854775808) (ho : at? Os id = some o) (hle : off + k ≤ o.data.length) (hk : k ≤ 1024) :
    Calls Try.prog 10 #[.pointer (some ⟨s, 0, none⟩), .int .i64 id, .int .i64 (off : Int), .int .i64 (k : Int)] w fun e w' => ∃ a cap, e = .returned (.tuple #[.slice a k cap, .int .i64 0]) ∧ Own w' w.heap.size 5 a k cap (u8s ((o.data.drop off).take k)) ∧ Below w.heap.size w w' := by
  have hz := zero_of info69
  have hz75 := zero_of info75
  have hmem := (at_mem ho).1
  have hbig := h.big o hmem
  have HRow := hid (h.rows o hmem)
  have HLen := hid (h.len o hmem)
  have HByt := hid (h.bytes o hmem)
  have HPg : Hid (∀ p ∈ o.pages, t p = true) := hid (fun p hp => (h.mem hmem hp).1)
  have H := hid h
  have HRK : Hid (rdOk o (off : Int) (k : Int)) := hid (by unfold rdOk; omega)
  have hsl := World.block_lt_of_cell? _ _ h.c0.1
  have hgl := h.arn.glt
  have hpl := h.arn.lt
  obtain ⟨sz, hsz⟩ : ∃ sz, sz = o.data.length := ⟨_, rfl⟩
  obtain ⟨PN, hPN⟩ : ∃ PN, PN = o.pages.length := ⟨_, rfl⟩
  have hP64 : off + k ≤ 64 * o.pages.length := by have := HLen.out; unfold needN at this; omega
  have HP64 := hid hP64
  obtain ⟨Z, hZs, hmk⟩ := make_room k (by omega)
  have HZs := hid hZs
  have HLE := hid hle
  have hb4 : off + k ≤ 4096 := by omega
  clear h hP64 hZs hle
  go_enter Try.func10, Try.ntmps10
  go_upto_region 5 with (first | (go_at_call 28; refine (slook_ok s g pb m n room nx t B Os id (off : Int) (k : Int) o _ H.out hi ho HRK.out).mono ?_; rintro e w1 ⟨rfl, hb⟩; have HB := hid hb; clear hb))
  have hw1 := HB.out.size
  obtain ⟨w3, hw3⟩ : ∃ w3, w3 = (w1.alloc (Obj.cells #[Value.int .i64 (o.data.length : Int), Value.slice o.adr o.pages.length o.pages.length] 69)).alloc (Obj.cells Z 5) := ⟨_, rfl⟩
  have HB3 : Hid (Below w.heap.size w w3) := hid (by rw [hw3]; exact below_call HB.out (below2 _ _ _))
  have HS3 : Hid (w3.heap.size = w1.heap.size + 2) := hid (by rw [hw3]; simp)
  have HO0 : Hid (Own w3 (w1.heap.size + 1) 5 (some ⟨w1.heap.size + 1, 0, none⟩) 0 k []) := hid (by
    have := World.ownsRow_made (base := w1.heap.size + 1) (size := 1) (e := 5) (w1.alloc (Obj.cells #[Value.int .i64 (o.data.length : Int), Value.slice o.adr o.pages.length o.pages.length] 69)) Z k (by simp) (by unfold maxLen; omega) (by rw [HZs.out]; omega)
    rw [World.size_alloc] at this
    rw [hw3]
    exact ⟨this, fun _ h => (by cases h)⟩)
  have x10a : w3.cell? ⟨w1.heap.size, 0, none⟩ = some (.int .i64 (o.data.length : Int)) := by rw [hw3]; exact cell_later (below1 _ _) (lies_new _ _ _ 0 _ rfl).1
  have x10b : w3.cell? ⟨w1.heap.size, 1, none⟩ = some (.slice o.adr o.pages.length o.pages.length) := by rw [hw3]; exact cell_later (below1 _ _) (lies_new _ _ _ 1 _ rfl).1
  rw [← hw3]
  obtain ⟨b0, hb0⟩ : ∃ b0, b0 = w1.heap.size + 1 := ⟨_, rfl⟩
  rw [← hb0] at HO0
  rw [← hb0]
  have HB0 := hid hb0
  clear hw3 hmk hb0 hz
  go_upto_region 6 with (first | (go_at_call 29; refine (pieces_any (o.data.length : Int) o.adr o.pages off k _ (HRow.out.later HB3.out) HP64.out hb4).mono ?_; rintro e w4 ⟨ap, capp, rfl, OP, hb⟩; have HOP := hid OP; have HB4 := hid hb; clear OP hb))
  clear x10a x10b
  have HA4 := hid ((H.out.arn.later HB3.out).later HB4.out)
  have HC4 := hid (cell_later HB4.out (cell_later HB3.out H.out.c0.1))
  obtain ⟨c, hc⟩ : ∃ c, c = pcN off k := ⟨_, rfl⟩
  rw [← hc] at HOP
  rw [← hc]
  have HCN := hid hc
  have hc64 : c ≤ 4096 := by rw [hc]; unfold pcN; split <;> omega
  clear hc
  go_loopw [12, 35] (RdRel w4 b0 off k o.data) (fun _ v _ => c - ivN v)
  case atStart =>
    refine ⟨0, 0, k, _, rfl, rfl, by rw [pos_zero]; omega, Nat.zero_le _, HO0.out.later HB4.out, fun j hj => .inl (blk_at hj), But.refl _ _⟩
  case round =>
    obtain ⟨i, l, cap, a, rfl, rfl, hl, hin, hO, hBl, hBt⟩ := hrel
    have HL := hid hl
    have HO := hid hO
    have HBl := hid hBl
    have HBt := hid hBt
    have HIN := hid hin
    clear hl hO hBl hBt hin
    have hb0n : b0 ≠ s ∧ b0 ≠ g ∧ b0 ≠ pb := by have := HB0.out; omega
    obtain ⟨hn1, hn2, hn3⟩ := hb0n
    have HA := hid (HA4.out.but HBt.out (Ne.symm hn2) (Ne.symm hn3))
    have xs := cell_but HBt.out HC4.out (Ne.symm hn1)
    by_cases hlt : i < c
    · have hd : decide ((i : Int) < (c : Int)) = true := decide_eq_true (by omega)
      have hpi : pos off k i < off + k := (pos_more off k i).1 (by have := HCN.out; omega)
      obtain ⟨gp, rfl, hg1, hg2, y0, y1, y2⟩ := pc_cells HOP.out hlt
      have hgb : gp ≠ b0 := by have := HB0.out; have := HS3.out; omega
      replace y0 := cell_but HBt.out y0 hgb
      replace y1 := cell_but HBt.out y1 hgb
      replace y2 := cell_but HBt.out y2 hgb
      have hql := pg_at HLen.out HLE.out hpi
      have HNX := hid (rd_piece HByt.out HLE.out hpi)
      have hnx := pos_next hpi
      have hpl2 := pos_le off k i
      obtain ⟨pg, hpg⟩ : ∃ pg, pg = o.pages.getD (off / 64 + i) 0 := ⟨_, rfl⟩
      obtain ⟨st, hst⟩ : ∃ st, st = pos off k i % 64 := ⟨_, rfl⟩
      obtain ⟨f, hf⟩ : ∃ f, f = pos off k (i + 1) - pos off k i := ⟨_, rfl⟩
      have HT : Hid (t pg = true) := hid (HPg.out pg (by rw [hpg, List.getD_eq_getElem?_getD, List.getElem?_eq_getElem hql]; exact List.getElem_mem _))
      have hsf : st + f ≤ 64 := by omega
      rw [← hpg, ← hst, ← hf] at HNX
      rw [← hpg] at y0
      rw [← hst] at y1
      rw [← hf] at y2
      have HLF : Hid (pos off k (i + 1) - off = l + f) := hid (by have := HL.out; omega)
      have hlf : l + f ≤ 4096 := by have := HLF.out; have := pos_le off k (i + 1); omega
      clear hpg hst hf hnx hpl2 hpi hql
      go_upto_region 8 with fail
      obtain ⟨w5, hw5⟩ : ∃ w5, w5 = wr.alloc (Obj.cells #[Value.int .i64 (pg : Int), Value.int .i64 (st : Int), Value.int .i64 (f : Int)] 75) := ⟨_, rfl⟩
      have HB5 : Hid (Below wr.heap.size wr w5) := hid (by rw [hw5]; exact below1 _ _)
      have HS : Hid (∀ W, Below w5.heap.size w5 W → (W.cell? ⟨s, 0, none⟩ = some (.pointer (some ⟨g, 0, none⟩)) ∧ W.cell? ⟨wr.heap.size, 0, none⟩ = some (.int .i64 (pg : Int)) ∧ W.cell? ⟨wr.heap.size, 1, none⟩ = some (.int .i64 (st : Int)) ∧ W.cell? ⟨wr.heap.size, 2, none⟩ = some (.int .i64 (f : Int))) ∧ Below w5.heap.size w5 W) := hid (by
        intro W hW
        refine ⟨⟨cell_later hW (cell_later HB5.out xs), ?_, ?_, ?_⟩, hW⟩ <;> refine cell_later hW ?_ <;> rw [hw5]
        · exact (lies_new _ _ _ 0 _ rfl).1
        · exact (lies_new _ _ _ 1 _ rfl).1
        · exact (lies_new _ _ _ 2 _ rfl).1)
      rw [← hw5]
      have HA5 := hid (HA.out.later HB5.out)
      clear hw5 y0 y1 y2 xs
      go_region_held3 (fun W => (W.cell? ⟨s, 0, none⟩ = some (.pointer (some ⟨g, 0, none⟩)) ∧ W.cell? ⟨wr.heap.size, 0, none⟩ = some (.int .i64 (pg : Int)) ∧ W.cell? ⟨wr.heap.size, 1, none⟩ = some (.int .i64 (st : Int)) ∧ W.cell? ⟨wr.heap.size, 2, none⟩ = some (.int .i64 (f : Int))) ∧ Below w5.heap.size w5 W) (first | exact HS.out _ (Below.refl _ _).drew | exact HS.out _ hb2.out) (first | (go_at_call 30; refine (read_ok g pb n t B pg st f _ (HA5.out.later (Below.refl _ _).drew) HT.out hsf).mono ?_; rintro e w6 ⟨a6, rfl, A6, hb6⟩; have hb2 := hid (below_call (Below.refl w5.heap.size w5).drew hb6)))
      have HB6 := hid (below_call HB5.out hb2.out)
      obtain ⟨a', cap', w7, hrun, hO7, hG⟩ := append_bytes (HO.out.later HB6.out) A6.row (by have := HB6.out.size; have := HBt.out.size; have := HB4.out.size; have := HS3.out; have := HB0.out; omega) (by omega)
      have HRUN := hid hrun
      have HO7 := hid hO7
      have HG := hid hG
      clear hrun hO7 hG A6 hb6
      go_wp2_with (first | (at_builtin; refine wpList_append_known rfl _ _ 30 rfl _ _ rfl rfl _ w7 HRUN.out ?_))
      have hBt6 := HBt.out.call HB6.out
      refine ⟨⟨i + 1, l + f, cap', a', rfl, rfl, HLF.out.symm, by have := HCN.out; omega, ?_, fun j hj => ?_, hBt6.comp HG.out.but (fun j hj => ?_)⟩, by simp [ivN]; omega⟩
      · have e : (o.data.drop off).take (l + f) = (o.data.drop off).take l ++ pgL B pg st f := by
          have := HNX.out
          rw [HLF.out, ← HL.out] at this
          exact this
        rw [e, u8s_append]
        exact HO7.out
      · rcases HG.out.on j hj with h1 | h1
        · exact HBl.out j h1
        · exact .inr (Nat.le_trans hBt6.size h1)
      · exact HBl.out j hj
    · obtain rfl : i = c := by have := HIN.out; have := HCN.out; omega
      have hd : decide ((i : Int) < (i : Int)) = false := by simp
      have HLK : Hid (l = k) := hid (by
        have h1 := HL.out
        rw [HCN.out, pos_end] at h1
        omega)
      clear xs
      go_wp2
      have hlk := HLK.out
      subst hlk
      have hw : Below w.heap.size w wr := But.below (S := (· = b0)) (below_call HB3.out HB4.out) HBt.out (fun j hj => by have := HB0.out; omega)
      refine bodyPost_ret (v := .tuple #[.slice a l cap, .int .i64 0]) (by simp [results, Try.results10, go_sem]) rfl ⟨a, cap, rfl, HO.out.mono (by have := HB0.out; omega), hw⟩
end Go.Proofs.Ytejkbeeffllpfaa
