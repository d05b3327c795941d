import Derived.Test.YthfmmfphnimlnaaIJ
import Derived.Test.YthfmmfphnimlnaaIE
namespace Go.Proofs.Ythfmmfphnimlnaa
open Go.RowKit
set_option linter.unusedVariables false
set_option linter.unusedSimpArgs false
/-- A set that holds the capabilities of the first tokens. -/
structure Seen (T : List Tk) (j : Nat) (D : List Cp) : Prop where
  mem : ∀ c, c ∈ D ↔ c ∈ (T.take j).map Tk.c
  le : D.length ≤ j
  nod : D.length = j ↔ ((T.take j).map Tk.c).Nodup
theorem Seen.zero (T : List Tk) : Seen T 0 [] := ⟨fun c => by simp, Nat.le_refl _, by simp⟩
theorem Seen.next {T : List Tk} {j : Nat} {D : List Cp} (h : Seen T j D) {t : Tk} (ht : T[j]? = some t) : Seen T (j + 1) (insC D t.c) := by
  have e : (T.take (j + 1)).map Tk.c = (T.take j).map Tk.c ++ [t.c] := by rw [List.take_add_one, ht, List.map_append]; rfl
  unfold insC
  by_cases hc : t.c ∈ D
  · rw [if_pos hc]
    refine ⟨fun c => ?_, by have := h.le; omega, ?_⟩
    · rw [e, List.mem_append, ← h.mem c, List.mem_singleton]
      constructor
      · exact .inl
      · rintro (h1 | h1)
        · exact h1
        · rw [h1]; exact hc
    · rw [e]
      have := h.le
      constructor
      · intro; omega
      · intro hn
        exact absurd ((h.mem _).1 hc) (by
          rw [List.nodup_append] at hn
          exact fun hx => hn.2.2 _ hx _ (List.mem_singleton.2 rfl) rfl)
  · rw [if_neg hc]
    have hc' : t.c ∉ (T.take j).map Tk.c := fun hx => hc ((h.mem _).2 hx)
    refine ⟨fun c => ?_, by have := h.le; simp; omega, ?_⟩
    · rw [e, List.mem_append, List.mem_append, h.mem c]
    · rw [e, List.nodup_append]
      have := h.nod
      simp only [List.length_append, List.length_singleton, Nat.add_right_cancel_iff]
      rw [this]
      constructor
      · intro hn
        refine ⟨hn, by simp, fun a ha b hb => ?_⟩
        rw [List.mem_singleton.1 hb]
        exact fun e2 => hc' (e2 ▸ ha)
      · exact fun hn => hn.1
theorem ldn_take (id : Int) : ∀ (T : List Tk), ∀ t ∈ T.take (ldn T id), t.c.o = id
  | [], t, h => by simp at h
  | x :: T, t, h => by
    rw [ldn_cons] at h
    by_cases e : x.c.o = id
    · rw [if_pos e, List.take_succ_cons] at h
      rcases List.mem_cons.1 h with h | h
      · rw [h]; exact e
      · exact ldn_take id T t h
    · rw [if_neg e] at h; simp at h
theorem tkS_mem {q : Int} : ∀ {O : List Ob} {T : List Tk}, tkS q O T = true → ∀ t ∈ T, ∃ o ∈ O, t.c.o = o.id
  | [], T, h, t, ht => by
    simp [tkS] at h
    rw [h] at ht; cases ht
  | o :: O, T, h, t, ht => by
    simp only [tkS, Bool.and_eq_true] at h
    rw [← List.take_append_drop (ldn T o.id) T] at ht
    rcases List.mem_append.1 ht with ht | ht
    · exact ⟨o, List.mem_cons_self, ldn_take _ _ t ht⟩
    · obtain ⟨x, hx, e2⟩ := tkS_mem h.2 t ht
      exact ⟨x, List.mem_cons_of_mem _ hx, e2⟩
set_option maxRecDepth 100000 in
set_option maxHeartbeats 4000000 in
theorem wordsHold_any (wd : Int) (s : Sl) (T : List Tk) (w : World) (h : Lk w 5 s (T.map encT)) (hm : s.n ≤ 140737488355328) (hfar : ∀ t ∈ T, t.c.far) :
    Calls Try.prog 51 #[.int .i64 wd, .slice s.a s.n s.c] w fun e w' => e = .returned (.bool (wrdB wd T)) ∧ Below w.heap.size w w' := by
  have hlen : T.length = s.n := by have := h.len; simpa using this
  obtain ⟨W, hW⟩ : ∃ W, W = w.alloc (.map #[] 0) := ⟨_, rfl⟩
  have hB : Below w.heap.size w W := by rw [hW]; exact below1 _ _
  have HL := hid (h.later hB)
  have HMp : Hid (Mp W w.heap.size []) := by rw [hW]; exact Mp.new w
  have HB := hid hB
  have HW := hid hW
  have HLen := hid hlen
  have HFar := hid hfar
  have HWs : Hid (W.heap.size = w.heap.size + 1) := by rw [hW]; unfold Hid; simp
  clear h hlen hfar hB hW
  obtain ⟨sa, n, sc⟩ := s
  simp only at hm HL HLen ⊢
  have hmm := @run_makeMap Try.prog
  go_enter Try.func51, Try.ntmps51
  go_upto_region 2 with fail
  clear hmm
  rw [← HW.out]
  go_upto_region 3 with fail
  go_loopw [11] (fun i U => ∃ (j : Nat) (D : List Cp), i = .int .i64 (j : Int) ∧ j ≤ n ∧ Seen T j D ∧ Mp U w.heap.size D ∧ (T.drop j).all (fun t => _root_.Go.Proofs.Ythfmmfphnimlnaa.W.fitsB t.c.n wd) = T.all (fun t => _root_.Go.Proofs.Ythfmmfphnimlnaa.W.fitsB t.c.n wd) ∧ But (· = w.heap.size) W U) (fun i _ => n - ivN i)
  case atStart => exact ⟨0, [], rfl, Nat.zero_le _, Seen.zero T, HMp.out, rfl, But.refl _ _⟩
  case round =>
    obtain ⟨j, D, rfl, hj, hSe, hMp, hS, hBr⟩ := hrel
    have HS := hid hS
    have HBr := hid hBr
    have HSe := hid hSe
    have HM := hid hMp
    have HBw : Hid (Below w.heap.size w wr) := But.below HB.out hBr (fun k hk => by rw [hk]; exact Nat.le_refl _)
    clear hS hBr hSe hMp
    by_cases hlt : j < n
    · have hd : decide ((j : Int) < (n : Int)) = true := by simp; omega
      obtain ⟨q, hq⟩ : ∃ q, T[j]? = some q := ⟨_, List.getElem?_eq_getElem (by have := HLen.out; omega)⟩
      obtain ⟨g, o, rfl, hrg⟩ := HL.out.at_ j (encT q) (by rw [List.getElem?_map, hq]; rfl)
      have hgl : g < W.heap.size := World.block_lt_of_cell? _ _ (hrg 0 _ rfl)
      have hgn : g ≠ w.heap.size := fun e => by
        obtain ⟨es, clk, h1, _⟩ := HMp.out.ex
        have h2 := hrg 0 _ rfl
        rw [e] at h2
        simp [World.cell?, h1] at h2
      have hrg2 : wr.rangeAt g (o + j * 5) (encT q) := fun k v hv => by
        have := hrg k v hv
        have hb := HBr.out.block g hgl hgn
        unfold World.cell? at this ⊢
        simp only at this ⊢
        rw [hb]; exact this
      have HLd := hid (ldT hrg2 rfl)
      have HD := hid (drop_at hq)
      rw [HD.out, List.all_cons] at HS
      have hqf := HFar.out q (List.mem_of_getElem? hq)
      have HFt := hid (fun U => _root_.Go.Proofs.Ythfmmfphnimlnaa.W.fits_any (q.c.h : Int) (q.c.l : Int) q.c.n wd U (Cp.isV hqf.1))
      have HQf := hid hqf
      have HSn := hid (HSe.out.next hq)
      generalize _root_.Go.Proofs.Ythfmmfphnimlnaa.W.fitsB q.c.n wd = fb at HFt HS
      obtain ⟨⟨qo, qh, ql⟩, qr, qp⟩ := q
      have HLd : Hid ((Instr.loadAt 67 (.pointer (some ⟨g, o + j * 5, none⟩))).run Try.prog wr = .ok (.agg #[.int .i64 qo, .int .u64 (qh : Int), .int .u64 (ql : Int), .int .i64 qr, .int .i64 qp]) wr) := HLd.out
      obtain ⟨V, hV⟩ : ∃ V, V = wr.alloc (Obj.cells #[.int .i64 qo, .int .u64 (qh : Int), .int .u64 (ql : Int), .int .i64 qr, .int .i64 qp] 67) := ⟨_, rfl⟩
      have HBn : Hid (Below wr.heap.size wr V) := by rw [hV]; exact below1 _ _
      have z0 : V.cell? ⟨wr.heap.size, 0, none⟩ = some (.int .i64 qo) := by rw [hV]; simp [go_sem]
      have z1 : V.cell? ⟨wr.heap.size, 1, none⟩ = some (.int .u64 (qh : Int)) := by rw [hV]; simp [go_sem]
      have z2 : V.cell? ⟨wr.heap.size, 2, none⟩ = some (.int .u64 (ql : Int)) := by rw [hV]; simp [go_sem]
      have HZ0 := hid z0
      have HZ1 := hid z1
      have HZ2 := hid z2
      have HV := hid hV
      clear hrg hrg2 hq HD hV hqf hgl hgn
      simp only at HFt HS HSn
      go_upto_region 5 with (first | ((with_reducible refine ld_arm HLd.out ?_ ?_); (· rfl)))
      rw [← HV.out]
      clear HLd z0
      cases fb with
      | true =>
        have HS2 : Hid ((T.drop (j + 1)).all (fun t => _root_.Go.Proofs.Ythfmmfphnimlnaa.W.fitsB t.c.n wd) = T.all (fun t => _root_.Go.Proofs.Ythfmmfphnimlnaa.W.fitsB t.c.n wd)) := HS.out
        go_upto_region 7 with (first | (go_at_call 78; refine (HFt.out _).mono ?_; rintro e w2 ⟨rfl, hb2⟩; have HB2 := hid hb2; clear hb2))
        have z0 := cell_later HB2.out HZ0.out
        have z1' := cell_later HB2.out HZ1.out
        have z2' := cell_later HB2.out HZ2.out
        obtain ⟨w3, hr3, hM3, hB3⟩ := ((HM.out.later HBn.out).later HB2.out).put HQf.out (.agg #[])
        have HU := hid hr3
        have HM3 := hid hM3
        have HB3 : Hid (But (· = w.heap.size) W w3) := ((HBr.out.call HBn.out).call HB2.out).trans hB3
        clear hr3 hM3 hB3 z1 z2
        go_wp2_with (first | ((with_reducible refine upd_arm HU.out ?_ ?_ ?_ ?_); (· rfl); (· rfl); (· rfl)))
        exact ⟨⟨j + 1, _, rfl, by omega, HSn.out, HM3.out, HS2.out, HB3.out⟩, by simp [ivN]; omega⟩
      | false =>
        have HF : Hid (wrdB wd T = false) := by unfold Hid wrdB; rw [← HS.out]; rfl
        go_wp2_with (first | (go_at_call 78; refine (HFt.out _).mono ?_; rintro e w2 ⟨rfl, hb2⟩; have HB2 := hid hb2; clear hb2))
        go_ret
        exact ⟨ret_bool HF.out.symm, below_call HBw.out (below_call HBn.out HB2.out)⟩
    · obtain rfl : j = n := by omega
      have HF : Hid (wrdB wd T = ((D.length : Int) == (j : Int))) := by
        unfold Hid wrdB
        rw [← HS.out, List.drop_eq_nil_of_le (by have := HLen.out; omega)]
        have h1 := HSe.out.nod
        rw [List.take_of_length_le (by have := HLen.out; omega)] at h1
        rw [Bool.eq_iff_iff]
        simp only [List.all_nil, Bool.true_and, decide_eq_true_eq, beq_iff_eq]
        rw [← h1]
        omega
      have hln := HM.out.len 3
      go_wp2
      go_ret
      exact ⟨ret_bool HF.out.symm, HBw.out⟩
end Go.Proofs.Ythfmmfphnimlnaa
