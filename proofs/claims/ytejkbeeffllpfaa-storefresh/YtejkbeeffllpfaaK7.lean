import Derived.Test.YtejkbeeffllpfaaK6
namespace Go.Proofs.Ytejkbeeffllpfaa
open Go.RowKit
set_option linter.unusedVariables false

set_option maxRecDepth 100000 in
set_option maxHeartbeats 1000000 in
theorem swrite_none (s g pb m n room : Nat) (nx : Int) (t : Nat → Bool) (B : Nat → Nat → Nat) (Os : List Ob) (id off : Int) (da : Option Addr) (k cd : Nat) (w : World) (h : Sto w s g pb m n room nx t B Os) (hi : -9223372036854775808 ≤ id ∧ id < 9223372036854775808) (ho : at? Os id = none) :
    Calls Try.prog 12 #[.pointer (some ⟨s, 0, none⟩), .int .i64 id, .int .i64 off, .slice da k cd] w fun e w' => e = .returned (.int .i64 20) ∧ Below w.heap.size w w' := by
  have hz := zero_of info69
  have H := hid h
  clear h
  go_enter Try.func12, Try.ntmps12
  go_wp2_with (first | (go_at_call 28; refine (slook_none s g pb m n room nx t B Os id off (k : Int) _ H.out hi ho).mono ?_; rintro e w1 ⟨rfl, hb⟩; have HB := hid hb; clear hb))
  go_ret
  exact ⟨rfl, below_call HB.out (below1 _ _)⟩
set_option maxRecDepth 100000 in
set_option maxHeartbeats 1000000 in
theorem swrite_bad (s g pb m n room : Nat) (nx : Int) (t : Nat → Bool) (B : Nat → Nat → Nat) (Os : List Ob) (id off : Int) (o : Ob) (da : Option Addr) (k cd : Nat) (w : World) (h : Sto w s g pb m n room nx t B Os) (hi : -9223372036854775808 ≤ id ∧ id < 9223372036854775808) (ho : at? Os id = some o) (hb : ¬ rdOk o off (k : Int)) :
    Calls Try.prog 12 #[.pointer (some ⟨s, 0, none⟩), .int .i64 id, .int .i64 off, .slice da k cd] w fun e w' => e = .returned (.int .i64 5) ∧ Below w.heap.size w w' := by
  have hz := zero_of info69
  have H := hid h
  clear h
  go_enter Try.func12, Try.ntmps12
  go_wp2_with (first | (go_at_call 28; refine (slook_bad s g pb m n room nx t B Os id off (k : Int) o _ H.out hi ho hb).mono ?_; rintro e w1 ⟨rfl, hb⟩; have HB := hid hb; clear hb))
  go_ret
  exact ⟨rfl, below_call HB.out (below1 _ _)⟩
def WrRel (w4 : World) (g pb n : Nat) (t : Nat → Bool) (B : Nat → Nat → Nat) (pages : List Nat) (off k : Nat) (da : Option Addr) (D : List Nat) (v3 v31 : Value) (w' : World) : Prop :=
  ∃ (i r cd : Nat) (ad : Option Addr) (B' : Nat → Nat → Nat), v3 = .slice ad r cd ∧ v31 = .int .i64 (i : Int) ∧ r = off + k - pos off k i ∧ i ≤ pcN off k ∧ Row w' ad r cd (u8s (D.drop (pos off k i - off))) ∧ (∀ j, Blk ad j → Blk da j) ∧ Arn w' g pb n t B' ∧ Wrote pages B B' off (pos off k i) D ∧ But (· = pb) w4 w'
set_option maxRecDepth 100000 in
set_option maxHeartbeats 2000000 in
theorem swrite_ok (s g pb m n room : Nat) (nx : Int) (t : Nat → Bool) (B : Nat → Nat → Nat) (Os : List Ob) (id : Int) (off : Nat) (o : Ob) (da : Option Addr) (k cd : Nat) (D : List Nat) (w : World) (h : Sto w s g pb m n room nx t B Os) (hi : -9223372036854775808 ≤ id ∧ id < 9223372036854775808) (ho : at? Os id = some o) (hle : off + k ≤ o.data.length) (hk : k ≤ 1024) (hR : Row w da k cd (u8s D)) (hD : ∀ x ∈ D, x < 256) (hap : 0 < k → ∀ j, Blk da j → j ≠ pb) :
    Calls Try.prog 12 #[.pointer (some ⟨s, 0, none⟩), .int .i64 id, .int .i64 (off : Int), .slice da k cd] w fun e w' => ∃ B', e = .returned (.int .i64 0) ∧ Sto w' s g pb m n room nx t B' (Os.map (setO id off D)) ∧ But (· = pb) w w' := by
  have hz := zero_of info69
  have hz75 := zero_of info75
  have hmem := (at_mem ho).1
  have hbig := h.big o hmem
  have HRow := hid (h.rows o hmem)
  have HLen := hid (h.len o hmem)
  have HPg : Hid (∀ p ∈ o.pages, t p = true) := hid (fun p hp => (h.mem hmem hp).1)
  have HND := hid ((nodup_flat h.nd).1 o hmem)
  have H := hid h
  have HRK : Hid (rdOk o (off : Int) (k : Int)) := hid (by unfold rdOk; omega)
  have hsl := World.block_lt_of_cell? _ _ h.c0.1
  have hgl := h.arn.glt
  have hpl := h.arn.lt
  have hsp := h.sp
  have hDl : D.length = k := by have := hR.len; rwa [u8s_length] at this
  have HDL := hid hDl
  have hP64 : off + k ≤ 64 * o.pages.length := by have := HLen.out; unfold needN at this; omega
  have HP64 := hid hP64
  have HLE := hid hle
  have HR := hid hR
  have HD := hid hD
  have HAP := hid hap
  have hb4 : off + k ≤ 4096 := by omega
  clear h hP64 hle hR hD hap hDl
  go_enter Try.func12, Try.ntmps12
  go_upto_region 4 with (first | (go_at_call 28; refine (slook_ok s g pb m n room nx t B Os id (off : Int) (k : Int) o _ H.out hi ho HRK.out).mono ?_; rintro e w1 ⟨rfl, hb⟩; have HB := hid hb; clear hb))
  obtain ⟨w3, hw3⟩ : ∃ w3, w3 = w1.alloc (Obj.cells #[Value.int .i64 (o.data.length : Int), Value.slice o.adr o.pages.length o.pages.length] 69) := ⟨_, rfl⟩
  have HB3 : Hid (Below w.heap.size w w3) := hid (by rw [hw3]; exact below_call HB.out (below1 _ _))
  have x10a : w3.cell? ⟨w1.heap.size, 0, none⟩ = some (.int .i64 (o.data.length : Int)) := by rw [hw3]; exact (lies_new _ _ _ 0 _ rfl).1
  have x10b : w3.cell? ⟨w1.heap.size, 1, none⟩ = some (.slice o.adr o.pages.length o.pages.length) := by rw [hw3]; exact (lies_new _ _ _ 1 _ rfl).1
  rw [← hw3]
  clear hw3 hz
  go_upto_region 5 with (first | (go_at_call 29; refine (pieces_any (o.data.length : Int) o.adr o.pages off k _ (HRow.out.later HB3.out) HP64.out hb4).mono ?_; rintro e w4 ⟨ap, capp, rfl, OP, hb⟩; have HOP := hid OP; have HB4 := hid hb; clear OP hb))
  clear x10a x10b
  have HH4 := hid ((H.out.later HB3.out).later HB4.out)
  have HR4 := hid ((HR.out.later HB3.out).later HB4.out)
  obtain ⟨c, hc⟩ : ∃ c, c = pcN off k := ⟨_, rfl⟩
  rw [← hc] at HOP
  rw [← hc]
  have HCN := hid hc
  have hc64 : c ≤ 4096 := by rw [hc]; unfold pcN; split <;> omega
  have hs3 := HB3.out.size
  clear hc
  go_loopw [3, 31] (WrRel w4 g pb n t B o.pages off k da D) (fun _ v _ => c - ivN v)
  case atStart =>
    exact ⟨0, k, cd, da, B, rfl, rfl, by rw [pos_zero]; omega, Nat.zero_le _, by rw [pos_zero, Nat.sub_self]; exact HR4.out, fun _ h => h, HH4.out.arn, by rw [pos_zero]; exact wrote_start _ _ _ _, But.refl _ _⟩
  case round =>
    obtain ⟨i, r, cq, ad, B1, rfl, rfl, hr, hin, hRr, hBl, hA, hW, hBt⟩ := hrel
    have HRR := hid hr
    have HRr := hid hRr
    have HBl := hid hBl
    have HA := hid hA
    have HW := hid hW
    have HBt := hid hBt
    have HIN := hid hin
    clear hr hRr hBl hA hW hBt hin
    have xs := cell_but HBt.out HH4.out.c0.1 hsp
    by_cases hlt : i < c
    · have hd : decide ((i : Int) < (c : Int)) = true := decide_eq_true (by omega)
      have hpi : pos off k i < off + k := (pos_more off k i).1 (by have := HCN.out; omega)
      obtain ⟨gp, rfl, hg1, hg2, y0, y1, y2⟩ := pc_cells HOP.out hlt
      have hgb : gp ≠ pb := by omega
      replace y0 := cell_but HBt.out y0 hgb
      replace y1 := cell_but HBt.out y1 hgb
      replace y2 := cell_but HBt.out y2 hgb
      have hql := pg_at HLen.out HLE.out hpi
      have HNX := hid (wrote_next HND.out HDL.out HP64.out hpi HW.out)
      have hnx := pos_next hpi
      have hpl2 := pos_le off k i
      obtain ⟨pg, hpg⟩ : ∃ pg, pg = o.pages.getD (off / 64 + i) 0 := ⟨_, rfl⟩
      obtain ⟨st, hst⟩ : ∃ st, st = pos off k i % 64 := ⟨_, rfl⟩
      obtain ⟨f, hf⟩ : ∃ f, f = pos off k (i + 1) - pos off k i := ⟨_, rfl⟩
      have HT : Hid (t pg = true) := hid (HPg.out pg (by rw [hpg]; exact getD_mem hql))
      have hsf : st + f ≤ 64 := by omega
      have hfr : f ≤ r := by have := HRR.out; omega
      rw [← hpg, ← hst, ← hf] at HNX
      rw [← hpg] at y0
      rw [← hst] at y1
      rw [← hf] at y2
      have HLF : Hid (off + k - pos off k (i + 1) = r - f ∧ pos off k (i + 1) - off = pos off k i - off + f) := hid (by have := HRR.out; omega)
      have hr4 : r ≤ 4096 := by have := HRR.out; omega
      have hcq := HRr.out.cap_
      obtain ⟨a2, hcut, ha2⟩ := slice_from 30 5 und30 size_el30 ad r cq f hfr
      obtain ⟨hR2, hBl2⟩ := HRr.out.from hfr ha2
      have HR2 := hid hR2
      have HBl2 := hid hBl2
      have hc0 : (0 : Int) ≤ (f : Int) := by omega
      have hc1 : (f : Int) ≤ (cq : Int) := by omega
      have HRf : Hid (Row wr ad f cq (u8s ((D.drop (pos off k i - off)).take f))) := hid (by
        have := HRr.out.sub (m := f) (c := cq) hfr (by omega) (fun e => (HRr.out.none_ e).2)
        rwa [u8s_take] at this)
      have HDs : Hid (∀ x ∈ (D.drop (pos off k i - off)).take f, x < 256) := hid (fun x hx => HD.out x (List.mem_of_mem_drop (List.mem_of_mem_take hx)))
      have HK0 : Hid (0 < k) := hid (by omega)
      clear hpg hst hf hnx hpl2 hpi hql hR2 hBl2 ha2
      go_upto_region 7 with fail
      obtain ⟨w5, hw5⟩ : ∃ w5, w5 = wr.alloc (Obj.cells #[Value.int .i64 (pg : Int), Value.int .i64 (st : Int), Value.int .i64 (f : Int)] 75) := ⟨_, rfl⟩
      have HB5 : Hid (Below wr.heap.size wr w5) := hid (by rw [hw5]; exact below1 _ _)
      have hwp : wr.heap.size ≠ pb := by have := HBt.out.size; omega
      have HS : Hid (∀ W, But (· = pb) w5 W → (W.cell? ⟨s, 0, none⟩ = some (.pointer (some ⟨g, 0, none⟩)) ∧ W.cell? ⟨wr.heap.size, 0, none⟩ = some (.int .i64 (pg : Int)) ∧ W.cell? ⟨wr.heap.size, 1, none⟩ = some (.int .i64 (st : Int)) ∧ W.cell? ⟨wr.heap.size, 2, none⟩ = some (.int .i64 (f : Int))) ∧ But (· = pb) w5 W) := hid (by
        intro W hW
        refine ⟨⟨cell_but hW (cell_later HB5.out xs) hsp, ?_, ?_, ?_⟩, hW⟩ <;> refine cell_but hW ?_ hwp <;> rw [hw5]
        · exact (lies_new _ _ _ 0 _ rfl).1
        · exact (lies_new _ _ _ 1 _ rfl).1
        · exact (lies_new _ _ _ 2 _ rfl).1)
      rw [← hw5]
      have HA5 := hid (HA.out.later HB5.out)
      have HR5 := hid (HRf.out.later HB5.out)
      clear hw5 y0 y1 y2 xs
      have HCUT := hid hcut
      clear hcut
      go_region_held3 (fun W => (W.cell? ⟨s, 0, none⟩ = some (.pointer (some ⟨g, 0, none⟩)) ∧ W.cell? ⟨wr.heap.size, 0, none⟩ = some (.int .i64 (pg : Int)) ∧ W.cell? ⟨wr.heap.size, 1, none⟩ = some (.int .i64 (st : Int)) ∧ W.cell? ⟨wr.heap.size, 2, none⟩ = some (.int .i64 (f : Int))) ∧ But (· = pb) w5 W) (first | exact HS.out _ (But.of (Below.refl _ _).drew) | exact HS.out _ hb2.out) (first | (go_at_call 31; refine (write_ok g pb n t B1 pg st _ f cq _ _ (HA5.out.later (Below.refl _ _).drew) HT.out hsf HDs.out (HR5.out.later (Below.refl _ _).drew)).mono ?_; rintro e w6 ⟨rfl, A6, hb6⟩; have hb2 := hid ((But.of (S := (· = pb)) (Below.refl w5.heap.size w5).drew).trans hb6)))
      have z2 := (HS.out _ hb2.out).1.2.2.2
      have hcut := HCUT.out w6
      have HA6 := hid A6
      have HBw := hid (((HBt.out.call HB5.out).trans hb2.out))
      clear A6 hb6
      go_wp2
      refine ⟨⟨i + 1, r - f, cq - f, a2, _, rfl, rfl, HLF.out.1.symm, by have := HCN.out; omega, ?_, fun j hj => HBl.out j (HBl2.out j hj), HA6.out, HNX.out, HBw.out⟩, by simp [ivN]; omega⟩
      have e : u8s (D.drop (pos off k (i + 1) - off)) = (u8s (D.drop (pos off k i - off))).drop f := by rw [u8s_drop, List.drop_drop, HLF.out.2]
      rw [e]
      exact (HR2.out.later HB5.out).but hb2.out (fun j hj => HAP.out HK0.out j (HBl.out j (HBl2.out j hj)))
    · obtain rfl : i = c := by have := HIN.out; have := HCN.out; omega
      have hd : decide ((i : Int) < (i : Int)) = false := by simp
      have HPE : Hid (pos off k i = off + k) := hid (by rw [HCN.out]; exact pos_end off k)
      clear xs
      go_wp2
      go_ret
      have hW := HW.out
      rw [HPE.out, ← HDL.out] at hW
      refine ⟨B1, rfl, HH4.out.write ho (by rw [HDL.out]; exact HLE.out) HA.out hW HBt.out, ?_⟩
      exact (But.of (below_call HB3.out HB4.out)).trans HBt.out
end Go.Proofs.Ytejkbeeffllpfaa
