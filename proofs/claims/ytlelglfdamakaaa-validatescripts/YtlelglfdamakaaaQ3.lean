import Derived.Test.YtlelglfdamakaaaQ2
import Derived.Test.YtlelglfdamakaaaL1
namespace Go.Proofs.Ytlelglfdamakaaa
open Go.RowKit H
set_option linter.unusedVariables false
set_option linter.unusedSimpArgs false
variable {w w' : World} {H : Hv} {X : List Tk} {l : Fo} {t mo : Nat}

/-! ### A desk and the document beside one another -/
def Hv.Sw (H : Hv) (k : Nat) : Prop := H.Pw k ∨ H.Rw k
theorem Hv.Sw.p {w w' : World} (h : But H.Pw w w') : But H.Sw w w' := h.mono (fun k hk => .inl hk)
theorem Hv.Sw.r {w w' : World} (h : But H.Rw w w') : But H.Sw w w' := h.mono (fun k hk => .inr hk)
theorem Hv.Sw.all {k : Nat} (h : H.Sw k) : H.All k := by
  rcases h with h | h
  · exact h.all
  · rcases h with h | h
    · exact .inr (.inr (.inr (.inr (.inl h))))
    · exact .inr (.inr (.inr (.inr (.inr h))))
theorem Hv.Dis.sd (h : H.Dis) : ¬ H.Sw H.d := fun e => by
  rcases e with e | e | e
  · exact h.nd e
  · exact h.r4 e.symm
  · exact h.b4 e.symm
theorem Hv.Dis.far (h : H.Dis) : (∀ k, H.A.All k → ¬ H.Rw k) ∧ ¬ H.Rw H.g ∧ ¬ H.Rw H.v ∧ ¬ H.Rw H.d ∧ ¬ H.Pw H.r ∧ ¬ H.Pw H.b := by
  refine ⟨fun k hk e => ?_, fun e => ?_, fun e => ?_, fun e => ?_, fun e => ?_, fun e => ?_⟩
  · rcases e with e | e
    · exact h.r1 (e ▸ hk)
    · exact h.b1 (e ▸ hk)
  · rcases e with e | e
    · exact h.r2 e.symm
    · exact h.b2 e.symm
  · rcases e with e | e
    · exact h.r3 e.symm
    · exact h.b3 e.symm
  · rcases e with e | e
    · exact h.r4 e.symm
    · exact h.b4 e.symm
  · rcases e with e | e
    · exact h.r1 (.inr (.inr e))
    · exact h.r2 e
  · rcases e with e | e
    · exact h.b1 (.inr (.inr e))
    · exact h.b2 e
theorem Ds.rw (h : Ds w H X l) (hb : But H.Rw w w') : Ds w' H X l := by
  obtain ⟨a, b, c, d, _, _⟩ := h.vt.dis.far
  exact ⟨h.vt.but hb a b c, h.tp.but hb d⟩
theorem Dg.rw (h : Dg w H X l) (hb : But H.Rw w w') : Dg w' H X l := by
  obtain ⟨a, b, c, d, _, _⟩ := h.vg.dis.far
  exact ⟨h.vg.but hb a b c, h.tp.but hb d⟩
theorem Rq.pw (h : Rq w H X l t) (hd : H.Dis) (hb : But H.Pw w w') : Rq w' H X l t := by
  obtain ⟨_, _, _, _, e, f⟩ := hd.far
  exact h.but hb e f

/-! ### The document's calls -/
theorem qroot (h : Rq w H X l t) (hv : Inv H.mo X l) (hm : H.mo = mo) (ht : t < 9223372036854775807) (c : Cp) (r : Int) (hw : c.2.1 < B64 ∧ c.2.2 < B64) :
    Calls Try.prog 41 #[.pointer (some ⟨H.r, 0, none⟩), cpV c, .int .i64 r] w fun e w' => e = .returned (.tuple #[.int .i64 (rootR mo X l c r).num, .int .i64 (rootR mo X l c r).code]) ∧ Rq w' H (rootR mo X l c r).X (rootR mo X l c r).l (t + 1) ∧ But H.Rw w w' := by
  subst hm
  obtain ⟨wh, ev, hf, htm, he⟩ := h
  refine (rroot_any hf hv htm (by omega) c r hw).mono ?_
  rintro e w' ⟨rfl, ⟨wh', ev', h1, h2, h3⟩, hb⟩
  exact ⟨rfl, ⟨wh', ev', h1, h2, by omega⟩, hb⟩
theorem qchild (h : Rq w H X l t) (hv : Inv H.mo X l) (hm : H.mo = mo) (ht : t < 9223372036854775807) (p : Int) (c : Cp) (r : Int) (hw : c.2.1 < B64 ∧ c.2.2 < B64) :
    Calls Try.prog 42 #[.pointer (some ⟨H.r, 0, none⟩), .int .i64 p, cpV c, .int .i64 r] w fun e w' => e = .returned (.tuple #[.int .i64 (childR mo X l p c r).num, .int .i64 (childR mo X l p c r).code]) ∧ Rq w' H (childR mo X l p c r).X (childR mo X l p c r).l (t + 1) ∧ But H.Rw w w' := by
  subst hm
  obtain ⟨wh, ev, hf, htm, he⟩ := h
  refine (rchild_any hf hv htm (by omega) p c r hw).mono ?_
  rintro e w' ⟨rfl, ⟨wh', ev', h1, h2, h3⟩, hb⟩
  exact ⟨rfl, ⟨wh', ev', h1, h2, by omega⟩, hb⟩
theorem gonL_eq (l : Fo) (n : Int) : gonL l n = G true l n := drop_if l n
theorem qdrop (h : Rq w H X l t) (hv : Inv H.mo X l) (n : Int) :
    Calls Try.prog 43 #[.pointer (some ⟨H.r, 0, none⟩), .int .i64 n] w fun e w' => ∃ a c, e = .returned (.tuple #[.slice a (gonL l n).length c, .int .i64 (gonE l n)]) ∧ Ow w' w.heap.size 32 3 a (gonL l n).length c (caps (gonK X l n)) ∧ Rq w' H (gonX X l n) (gonF X l n) t ∧ But H.Rw w w' := by
  obtain ⟨wh, ev, hf, htm, he⟩ := h
  refine (rdrop_any hf hv.ok htm n).mono ?_
  rintro e w' ⟨a, c, rfl, hO, h1, hb⟩
  unfold gonK gonX gonF gonE
  rw [gonL_eq, dropS_eq]
  exact ⟨a, c, rfl, hO, ⟨wh, ev, h1, ⟨List.Pairwise.sublist List.filter_sublist htm.ord, fun x hx => htm.rng x (nums_cuts.1 hx).1⟩, he⟩, hb.mono (fun k hk => .inr hk)⟩
/-- Behind a step. -/
def Sd (w : World) (H : Hv) (t : Nat) (e : Ending) (w' : World) : Prop :=
  e = .returned (.bool true) ∧ (∃ X l, Ds w' H X l ∧ Rq w' H X l (t + 1)) ∧ But H.Sw w w'
theorem Rq.up (h : Rq w H X l t) : Rq w H X l (t + 1) := by
  obtain ⟨wh, ev, hf, htm, he⟩ := h
  exact ⟨wh, ev, hf, htm, by omega⟩
set_option maxRecDepth 100000 in
set_option maxHeartbeats 4000000 in
theorem step1 (h : Ds w H X l) (hq : Rq w H X l t) (hm : H.mo = mo) (ht : t < 9223372036854775807) (c : Cp) (p nd : Int) (la : Option Addr) (ln lc : Nat) (hw : c.2.1 < B64 ∧ c.2.2 < B64) (hH : ∀ k, H.All k → k < w.heap.size) :
    Calls Try.prog 18 #[.pointer (some ⟨H.d, 0, none⟩), opV 1 c p nd la ln lc] w (Sd w H t) := by
  obtain ⟨ko, kh, kl⟩ := c
  obtain ⟨w2, hw2⟩ : ∃ w2, w2 = w.alloc (Obj.cells #[.int .i64 1, .int .i64 ko, .int .u64 (kh : Int), .int .u64 (kl : Int), .int .i64 p, .int .i64 nd, .slice la ln lc] 54) := ⟨_, rfl⟩
  have hB2 : Below w.heap.size w w2 := by rw [hw2]; exact below1 _ _
  have hbq : Bq w2 w.heap.size 1 ko kh kl p nd la ln lc := by rw [hw2]; exact ⟨by simp [go_sem], by simp [go_sem], by simp [go_sem], by simp [go_sem], by simp [go_sem], by simp [go_sem], by simp [go_sem]⟩
  have HO : Hid (∀ U, But H.Sw w2 U → Bq U w.heap.size 1 ko kh kl p nd la ln lc) := fun U hU => hbq.but hU (fun e => absurd (hH _ e.all) (by omega))
  have HD2 := hid (h.later hB2)
  have HQ2 := hid (hq.later hB2)
  have HT : Hid (∀ U, But H.Sw w2 U → Tp U H.d H.A.g H.v H.r) := fun U hU => HD2.out.tp.but hU HD2.out.vt.dis.sd
  have HR2 : Hid (But H.Sw w2 w2) := But.refl _ _
  have HDi := hid h.vt.dis
  have HIv := hid h.vt.inv
  have HWd := hid hw
  have HEnd : Hid (∀ U, But H.Sw w2 U → But H.Sw w U) := fun U hU => (But.of hB2).trans hU
  have HMo := hid hm
  clear h hq hw hH hB2 hbq hm
  unfold opV
  go_enter Try.func18, Try.ntmps18
  go_upto_region 1 with fail
  rw [← hw2]
  clear hw2
  have z0 := (HO.out w2 HR2.out).c0
  go_upto_region 2 with fail
  clear z0
  have HCa := hid (fun (U : World) (h : Ds U H X l) => droot h HMo.out (ko, kh, kl) nd HWd.out)
  have HCq := hid (fun (U : World) (h : Rq U H X l t) => qroot h HIv.out HMo.out ht (ko, kh, kl) nd HWd.out)
  generalize rootR mo X l (ko, kh, kl) nd = R at *
  have HS_3 : Hid (∀ U, But H.Sw w2 U → (U.cell? ⟨H.d, 0, none⟩ = some (.pointer (some ⟨H.A.g, 0, none⟩)) ∧ U.cell? ⟨w.heap.size, 1, none⟩ = some (.int .i64 ko) ∧ U.cell? ⟨w.heap.size, 2, none⟩ = some (.int .u64 (kh : Int)) ∧ U.cell? ⟨w.heap.size, 3, none⟩ = some (.int .u64 (kl : Int)) ∧ U.cell? ⟨w.heap.size, 5, none⟩ = some (.int .i64 nd)) ∧ But H.Sw w2 U) := fun U hU => ⟨⟨(HT.out U hU).c0, (HO.out U hU).c1, (HO.out U hU).c2, (HO.out U hU).c3, (HO.out U hU).c5⟩, hU⟩
  go_upto_region 3 with fail
  go_region_held3 (fun U => (U.cell? ⟨H.d, 0, none⟩ = some (.pointer (some ⟨H.A.g, 0, none⟩)) ∧ U.cell? ⟨w.heap.size, 1, none⟩ = some (.int .i64 ko) ∧ U.cell? ⟨w.heap.size, 2, none⟩ = some (.int .u64 (kh : Int)) ∧ U.cell? ⟨w.heap.size, 3, none⟩ = some (.int .u64 (kl : Int)) ∧ U.cell? ⟨w.heap.size, 5, none⟩ = some (.int .i64 nd)) ∧ But H.Sw w2 U) (first | exact HS_3.out _ HB_3.out | exact HS_3.out _ (HR2.out.call (Below.refl _ _).drew)) (first
    | (go_at_call 8; refine (HCa.out _ (HD2.out.later (Below.refl w2.heap.size w2).drew)).mono ?_; rintro e w3 ⟨rfl, hd, hb⟩; have HD3 := hid hd; have HQ3 := hid ((HQ2.out.later (Below.refl w2.heap.size w2).drew).pw HDi.out hb); clear hd; have HB_3 := hid ((HR2.out.call (Below.refl w2.heap.size w2).drew).trans (Hv.Sw.p hb)); clear hb))
  clear HS_3
  have HS_4 : Hid (∀ U, But H.Sw w2 U → (U.cell? ⟨H.d, 2, none⟩ = some (.pointer (some ⟨H.r, 0, none⟩)) ∧ U.cell? ⟨w.heap.size, 1, none⟩ = some (.int .i64 ko) ∧ U.cell? ⟨w.heap.size, 2, none⟩ = some (.int .u64 (kh : Int)) ∧ U.cell? ⟨w.heap.size, 3, none⟩ = some (.int .u64 (kl : Int)) ∧ U.cell? ⟨w.heap.size, 5, none⟩ = some (.int .i64 nd)) ∧ But H.Sw w2 U) := fun U hU => ⟨⟨(HT.out U hU).c2, (HO.out U hU).c1, (HO.out U hU).c2, (HO.out U hU).c3, (HO.out U hU).c5⟩, hU⟩
  go_upto_region 4 with fail
  go_region_held3 (fun U => (U.cell? ⟨H.d, 2, none⟩ = some (.pointer (some ⟨H.r, 0, none⟩)) ∧ U.cell? ⟨w.heap.size, 1, none⟩ = some (.int .i64 ko) ∧ U.cell? ⟨w.heap.size, 2, none⟩ = some (.int .u64 (kh : Int)) ∧ U.cell? ⟨w.heap.size, 3, none⟩ = some (.int .u64 (kl : Int)) ∧ U.cell? ⟨w.heap.size, 5, none⟩ = some (.int .i64 nd)) ∧ But H.Sw w2 U) (first | exact HS_4.out _ HB_4.out | exact HS_4.out _ (HB_3.out.call (Below.refl _ _).drew)) (first
    | (go_at_call 41; refine (HCq.out _ (HQ3.out.later (Below.refl w3.heap.size w3).drew)).mono ?_; rintro e w4 ⟨rfl, hd, hb⟩; have HQ4 := hid hd; have HD4 := hid ((HD3.out.later (Below.refl w3.heap.size w3).drew).rw hb); clear hd; have HB_4 := hid ((HB_3.out.call (Below.refl w3.heap.size w3).drew).trans (Hv.Sw.r hb)); clear hb))
  clear HS_4
  go_wp2_with (first | (go_at_call 12; refine (num_any _ _).mono ?_; rintro e w9 ⟨rfl, hw9⟩; obtain rfl := hw9.symm; clear hw9))
  go_ret
  exact ⟨rfl, ⟨_, _, HD4.out, HQ4.out⟩, HEnd.out _ HB_4.out⟩
set_option maxRecDepth 100000 in
set_option maxHeartbeats 4000000 in
theorem step2 (h : Ds w H X l) (hq : Rq w H X l t) (hm : H.mo = mo) (ht : t < 9223372036854775807) (c : Cp) (p nd : Int) (la : Option Addr) (ln lc : Nat) (hw : c.2.1 < B64 ∧ c.2.2 < B64) (hH : ∀ k, H.All k → k < w.heap.size) :
    Calls Try.prog 18 #[.pointer (some ⟨H.d, 0, none⟩), opV 2 c p nd la ln lc] w (Sd w H t) := by
  obtain ⟨ko, kh, kl⟩ := c
  obtain ⟨w2, hw2⟩ : ∃ w2, w2 = w.alloc (Obj.cells #[.int .i64 2, .int .i64 ko, .int .u64 (kh : Int), .int .u64 (kl : Int), .int .i64 p, .int .i64 nd, .slice la ln lc] 54) := ⟨_, rfl⟩
  have hB2 : Below w.heap.size w w2 := by rw [hw2]; exact below1 _ _
  have hbq : Bq w2 w.heap.size 2 ko kh kl p nd la ln lc := by rw [hw2]; exact ⟨by simp [go_sem], by simp [go_sem], by simp [go_sem], by simp [go_sem], by simp [go_sem], by simp [go_sem], by simp [go_sem]⟩
  have HO : Hid (∀ U, But H.Sw w2 U → Bq U w.heap.size 2 ko kh kl p nd la ln lc) := fun U hU => hbq.but hU (fun e => absurd (hH _ e.all) (by omega))
  have HD2 := hid (h.later hB2)
  have HQ2 := hid (hq.later hB2)
  have HT : Hid (∀ U, But H.Sw w2 U → Tp U H.d H.A.g H.v H.r) := fun U hU => HD2.out.tp.but hU HD2.out.vt.dis.sd
  have HR2 : Hid (But H.Sw w2 w2) := But.refl _ _
  have HDi := hid h.vt.dis
  have HIv := hid h.vt.inv
  have HWd := hid hw
  have HEnd : Hid (∀ U, But H.Sw w2 U → But H.Sw w U) := fun U hU => (But.of hB2).trans hU
  have HMo := hid hm
  clear h hq hw hH hB2 hbq hm
  unfold opV
  go_enter Try.func18, Try.ntmps18
  go_upto_region 1 with fail
  rw [← hw2]
  clear hw2
  have z0 := (HO.out w2 HR2.out).c0
  go_upto_region 2 with fail
  clear z0
  have HCa := hid (fun (U : World) (h : Ds U H X l) => dchild h HMo.out p (ko, kh, kl) nd HWd.out)
  have HCq := hid (fun (U : World) (h : Rq U H X l t) => qchild h HIv.out HMo.out ht p (ko, kh, kl) nd HWd.out)
  generalize childR mo X l p (ko, kh, kl) nd = R at *
  have HS_7 : Hid (∀ U, But H.Sw w2 U → (U.cell? ⟨H.d, 0, none⟩ = some (.pointer (some ⟨H.A.g, 0, none⟩)) ∧ U.cell? ⟨w.heap.size, 1, none⟩ = some (.int .i64 ko) ∧ U.cell? ⟨w.heap.size, 2, none⟩ = some (.int .u64 (kh : Int)) ∧ U.cell? ⟨w.heap.size, 3, none⟩ = some (.int .u64 (kl : Int)) ∧ U.cell? ⟨w.heap.size, 4, none⟩ = some (.int .i64 p) ∧ U.cell? ⟨w.heap.size, 5, none⟩ = some (.int .i64 nd)) ∧ But H.Sw w2 U) := fun U hU => ⟨⟨(HT.out U hU).c0, (HO.out U hU).c1, (HO.out U hU).c2, (HO.out U hU).c3, (HO.out U hU).c4, (HO.out U hU).c5⟩, hU⟩
  go_upto_region 7 with fail
  go_region_held3 (fun U => (U.cell? ⟨H.d, 0, none⟩ = some (.pointer (some ⟨H.A.g, 0, none⟩)) ∧ U.cell? ⟨w.heap.size, 1, none⟩ = some (.int .i64 ko) ∧ U.cell? ⟨w.heap.size, 2, none⟩ = some (.int .u64 (kh : Int)) ∧ U.cell? ⟨w.heap.size, 3, none⟩ = some (.int .u64 (kl : Int)) ∧ U.cell? ⟨w.heap.size, 4, none⟩ = some (.int .i64 p) ∧ U.cell? ⟨w.heap.size, 5, none⟩ = some (.int .i64 nd)) ∧ But H.Sw w2 U) (first | exact HS_7.out _ HB_7.out | exact HS_7.out _ (HR2.out.call (Below.refl _ _).drew)) (first
    | (go_at_call 10; refine (HCa.out _ (HD2.out.later (Below.refl w2.heap.size w2).drew)).mono ?_; rintro e w3 ⟨rfl, hd, hb⟩; have HD3 := hid hd; have HQ3 := hid ((HQ2.out.later (Below.refl w2.heap.size w2).drew).pw HDi.out hb); clear hd; have HB_7 := hid ((HR2.out.call (Below.refl w2.heap.size w2).drew).trans (Hv.Sw.p hb)); clear hb))
  clear HS_7
  have HS_8 : Hid (∀ U, But H.Sw w2 U → (U.cell? ⟨H.d, 2, none⟩ = some (.pointer (some ⟨H.r, 0, none⟩)) ∧ U.cell? ⟨w.heap.size, 1, none⟩ = some (.int .i64 ko) ∧ U.cell? ⟨w.heap.size, 2, none⟩ = some (.int .u64 (kh : Int)) ∧ U.cell? ⟨w.heap.size, 3, none⟩ = some (.int .u64 (kl : Int)) ∧ U.cell? ⟨w.heap.size, 4, none⟩ = some (.int .i64 p) ∧ U.cell? ⟨w.heap.size, 5, none⟩ = some (.int .i64 nd)) ∧ But H.Sw w2 U) := fun U hU => ⟨⟨(HT.out U hU).c2, (HO.out U hU).c1, (HO.out U hU).c2, (HO.out U hU).c3, (HO.out U hU).c4, (HO.out U hU).c5⟩, hU⟩
  go_upto_region 8 with fail
  go_region_held3 (fun U => (U.cell? ⟨H.d, 2, none⟩ = some (.pointer (some ⟨H.r, 0, none⟩)) ∧ U.cell? ⟨w.heap.size, 1, none⟩ = some (.int .i64 ko) ∧ U.cell? ⟨w.heap.size, 2, none⟩ = some (.int .u64 (kh : Int)) ∧ U.cell? ⟨w.heap.size, 3, none⟩ = some (.int .u64 (kl : Int)) ∧ U.cell? ⟨w.heap.size, 4, none⟩ = some (.int .i64 p) ∧ U.cell? ⟨w.heap.size, 5, none⟩ = some (.int .i64 nd)) ∧ But H.Sw w2 U) (first | exact HS_8.out _ HB_8.out | exact HS_8.out _ (HB_7.out.call (Below.refl _ _).drew)) (first
    | (go_at_call 42; refine (HCq.out _ (HQ3.out.later (Below.refl w3.heap.size w3).drew)).mono ?_; rintro e w4 ⟨rfl, hd, hb⟩; have HQ4 := hid hd; have HD4 := hid ((HD3.out.later (Below.refl w3.heap.size w3).drew).rw hb); clear hd; have HB_8 := hid ((HB_7.out.call (Below.refl w3.heap.size w3).drew).trans (Hv.Sw.r hb)); clear hb))
  clear HS_8
  go_wp2_with (first | (go_at_call 12; refine (num_any _ _).mono ?_; rintro e w9 ⟨rfl, hw9⟩; obtain rfl := hw9.symm; clear hw9))
  go_ret
  exact ⟨rfl, ⟨_, _, HD4.out, HQ4.out⟩, HEnd.out _ HB_8.out⟩
theorem gon_small {m : Nat} (hv : Inv m X l) (hm : m ≤ 140737488355328) (n : Int) : (gonL l n).length ≤ 140737488355328 := by
  rw [gonL_eq]
  have h1 := nd_sub (G_nodup hv.ok true n) (B := nums l) (fun x hx => G_nums hv.ok hx)
  have h2 := nd_sub hv.ok.nodup (B := firsts m) (fun x hx => mem_firsts.2 (hv.ok.range x hx))
  rw [firsts_len] at h2
  omega
set_option maxRecDepth 100000 in
set_option maxHeartbeats 4000000 in
theorem step3 (h : Ds w H X l) (hq : Rq w H X l t) (hm : H.mo = mo) (ht : t < 9223372036854775807) (c : Cp) (p nd : Int) (la : Option Addr) (ln lc : Nat) (hw : c.2.1 < B64 ∧ c.2.2 < B64) (hH : ∀ k, H.All k → k < w.heap.size) :
    Calls Try.prog 18 #[.pointer (some ⟨H.d, 0, none⟩), opV 3 c p nd la ln lc] w (Sd w H t) := by
  obtain ⟨ko, kh, kl⟩ := c
  obtain ⟨w2, hw2⟩ : ∃ w2, w2 = w.alloc (Obj.cells #[.int .i64 3, .int .i64 ko, .int .u64 (kh : Int), .int .u64 (kl : Int), .int .i64 p, .int .i64 nd, .slice la ln lc] 54) := ⟨_, rfl⟩
  have hB2 : Below w.heap.size w w2 := by rw [hw2]; exact below1 _ _
  have hbq : Bq w2 w.heap.size 3 ko kh kl p nd la ln lc := by rw [hw2]; exact ⟨by simp [go_sem], by simp [go_sem], by simp [go_sem], by simp [go_sem], by simp [go_sem], by simp [go_sem], by simp [go_sem]⟩
  have HO : Hid (∀ U, But H.Sw w2 U → Bq U w.heap.size 3 ko kh kl p nd la ln lc) := fun U hU => hbq.but hU (fun e => absurd (hH _ e.all) (by omega))
  have HD2 := hid (h.later hB2)
  have HQ2 := hid (hq.later hB2)
  have HT : Hid (∀ U, But H.Sw w2 U → Tp U H.d H.A.g H.v H.r) := fun U hU => HD2.out.tp.but hU HD2.out.vt.dis.sd
  have HR2 : Hid (But H.Sw w2 w2) := But.refl _ _
  have HDi := hid h.vt.dis
  have HIv := hid h.vt.inv
  have HWd := hid hw
  have HEnd : Hid (∀ U, But H.Sw w2 U → But H.Sw w U) := fun U hU => (But.of hB2).trans hU
  have HMo := hid hm
  have HHi : Hid (∀ k, H.All k → k < w2.heap.size) := fun k hk => Nat.lt_of_lt_of_le (hH k hk) hB2.size
  have HSm : Hid ((gonL l p).length ≤ 140737488355328) := gon_small h.vt.inv (by have := h.vt.cat.cm.small; omega) p
  clear h hq hw hH hB2 hbq hm
  unfold opV
  go_enter Try.func18, Try.ntmps18
  go_upto_region 1 with fail
  rw [← hw2]
  clear hw2
  have z0 := (HO.out w2 HR2.out).c0
  go_upto_region 2 with fail
  clear z0
  have HCa := hid (fun (U : World) (h : Ds U H X l) => ddrop h p)
  have HCq := hid (fun (U : World) (h : Rq U H X l t) => qdrop h HIv.out p)
  have HKl : Hid ((gonK X l p).length = (gonL l p).length) := gonK_len X l p
  generalize gonL l p = Gl at *
  generalize gonE l p = Ge at *
  generalize gonK X l p = Gk at *
  generalize gonX X l p = Gx at *
  generalize gonF X l p = Gf at *
  have HKs : Hid (Gl.length ≤ 140737488355328 → ∀ (U : World) (a b : Option Addr) (ca cb : Nat), Rd U a Gl.length Gk → Rd U b Gl.length Gk → Calls Try.prog 44 #[.slice a Gl.length ca, .slice b Gl.length cb] U fun e w' => e = .returned (.bool true) ∧ ∃ q, w' = U.drewN q) := fun hs U a b ca cb h1 h2 => by
    have := sameC_any ca cb h1 h2 hs hs
    simp only [decide_true] at this
    exact this
  have HS_11 : Hid (∀ U, But H.Sw w2 U → (U.cell? ⟨H.d, 0, none⟩ = some (.pointer (some ⟨H.A.g, 0, none⟩)) ∧ U.cell? ⟨w.heap.size, 4, none⟩ = some (.int .i64 p)) ∧ But H.Sw w2 U) := fun U hU => ⟨⟨(HT.out U hU).c0, (HO.out U hU).c4⟩, hU⟩
  go_upto_region 11 with fail
  go_region_held3 (fun U => (U.cell? ⟨H.d, 0, none⟩ = some (.pointer (some ⟨H.A.g, 0, none⟩)) ∧ U.cell? ⟨w.heap.size, 4, none⟩ = some (.int .i64 p)) ∧ But H.Sw w2 U) (first | exact HS_11.out _ HB_11.out | exact HS_11.out _ (HR2.out.call (Below.refl _ _).drew)) (first
    | (go_at_call 13; refine (HCa.out _ (HD2.out.later (Below.refl w2.heap.size w2).drew)).mono ?_; rintro e w3 ⟨la3, lc3, rfl, hO, hd, hb⟩; have HD3 := hid hd; have HO3 := hid (hO.mono (Below.refl w2.heap.size w2).drew.size); have HQ3 := hid ((HQ2.out.later (Below.refl w2.heap.size w2).drew).pw HDi.out hb); clear hd hO; have HB_11 := hid ((HR2.out.call (Below.refl w2.heap.size w2).drew).trans (Hv.Sw.p hb)); clear hb))
  clear HS_11
  have HS_12 : Hid (∀ U, But H.Sw w2 U → (U.cell? ⟨H.d, 2, none⟩ = some (.pointer (some ⟨H.r, 0, none⟩)) ∧ U.cell? ⟨w.heap.size, 4, none⟩ = some (.int .i64 p)) ∧ But H.Sw w2 U) := fun U hU => ⟨⟨(HT.out U hU).c2, (HO.out U hU).c4⟩, hU⟩
  go_upto_region 12 with fail
  go_region_held3 (fun U => (U.cell? ⟨H.d, 2, none⟩ = some (.pointer (some ⟨H.r, 0, none⟩)) ∧ U.cell? ⟨w.heap.size, 4, none⟩ = some (.int .i64 p)) ∧ But H.Sw w2 U) (first | exact HS_12.out _ HB_12.out | exact HS_12.out _ (HB_11.out.call (Below.refl _ _).drew)) (first
    | (go_at_call 43; refine (HCq.out _ (HQ3.out.later (Below.refl w3.heap.size w3).drew)).mono ?_; rintro e w4 ⟨la4, lc4, rfl, hO, hd, hb⟩; have HQ4 := hid hd; have HO4 := hid (hO.mono (Below.refl w3.heap.size w3).drew.size); have HD4 := hid ((HD3.out.later (Below.refl w3.heap.size w3).drew).rw hb); have HO34 := hid ((HO3.out.later (Below.refl w3.heap.size w3).drew).but hb (fun j hj e => by have h1 := (HO3.out.blk j hj).1; have h2 := HHi.out j (Hv.Sw.all (.inr e)); omega)); clear hd hO; have HB_12 := hid ((HB_11.out.call (Below.refl w3.heap.size w3).drew).trans (Hv.Sw.r hb)); clear hb))
  clear HS_12
  have z1 := (HT.out _ HB_12.out).c1
  go_upto_region 14 with (first | (go_at_call 14; refine (gone_any HD4.out.vg).mono ?_; rintro e w5 ⟨rfl, hd, hb⟩; have HD5 : Hid (Ds w5 H Gx Gf) := ⟨hd, HD4.out.tp.own hd.dis (Hv.Pw.of_g hb)⟩; have HQ5 := hid (HQ4.out.pw HDi.out (Hv.Pw.of_g hb)); have HOa := hid (HO34.out.but hb (fun j hj e => by have h1 := (HO34.out.blk j hj).1; have h2 := HHi.out H.g H.g_all; omega)); have HOb := hid (HO4.out.but hb (fun j hj e => by have h1 := (HO4.out.blk j hj).1; have h2 := HHi.out H.g H.g_all; have h3 := HB_11.out.size; omega)); have HB_13 := hid (HB_12.out.trans (Hv.Sw.p (Hv.Pw.of_g hb))); clear hd hb))
  clear z1
  have HGs : Hid (Gl.length ≤ 140737488355328) := HSm.out
  go_wp2_with (first
    | (go_at_call 12; refine (num_any _ _).mono ?_; rintro e w9 ⟨rfl, hw9⟩; obtain rfl := hw9.symm; clear hw9)
    | (go_at_call 44; refine (HKs.out HGs.out _ _ _ _ _ (ow_rd HOa.out HKl.out) (ow_rd HOb.out HKl.out)).mono ?_; rintro e w6 ⟨rfl, q6, hq6⟩; have HB6 : Hid (Below w5.heap.size w5 w6) := (by rw [hq6]; exact below_drewN (Below.refl _ _) q6); clear hq6))
  go_ret
  exact ⟨rfl, ⟨_, _, HD5.out.later HB6.out, (HQ5.out.later HB6.out).up⟩, HEnd.out _ (HB_13.out.call HB6.out)⟩
set_option maxRecDepth 100000 in
set_option maxHeartbeats 4000000 in
theorem step4 (h : Ds w H X l) (hq : Rq w H X l t) (hm : H.mo = mo) (ht : t < 9223372036854775807) (c : Cp) (p nd : Int) (la : Option Addr) (ln lc : Nat) (hw : c.2.1 < B64 ∧ c.2.2 < B64) (hH : ∀ k, H.All k → k < w.heap.size) :
    Calls Try.prog 18 #[.pointer (some ⟨H.d, 0, none⟩), opV 4 c p nd la ln lc] w (Sd w H t) := by
  obtain ⟨ko, kh, kl⟩ := c
  obtain ⟨w2, hw2⟩ : ∃ w2, w2 = w.alloc (Obj.cells #[.int .i64 4, .int .i64 ko, .int .u64 (kh : Int), .int .u64 (kl : Int), .int .i64 p, .int .i64 nd, .slice la ln lc] 54) := ⟨_, rfl⟩
  have hB2 : Below w.heap.size w w2 := by rw [hw2]; exact below1 _ _
  have hbq : Bq w2 w.heap.size 4 ko kh kl p nd la ln lc := by rw [hw2]; exact ⟨by simp [go_sem], by simp [go_sem], by simp [go_sem], by simp [go_sem], by simp [go_sem], by simp [go_sem], by simp [go_sem]⟩
  have HO : Hid (∀ U, But H.Sw w2 U → Bq U w.heap.size 4 ko kh kl p nd la ln lc) := fun U hU => hbq.but hU (fun e => absurd (hH _ e.all) (by omega))
  have HD2 := hid (h.later hB2)
  have HQ2 := hid (hq.later hB2)
  have HT : Hid (∀ U, But H.Sw w2 U → Tp U H.d H.A.g H.v H.r) := fun U hU => HD2.out.tp.but hU HD2.out.vt.dis.sd
  have HR2 : Hid (But H.Sw w2 w2) := But.refl _ _
  have HDi := hid h.vt.dis
  have HIv := hid h.vt.inv
  have HWd := hid hw
  have HEnd : Hid (∀ U, But H.Sw w2 U → But H.Sw w U) := fun U hU => (But.of hB2).trans hU
  have HMo := hid hm
  clear h hq hw hH hB2 hbq hm
  unfold opV
  go_enter Try.func18, Try.ntmps18
  go_upto_region 1 with fail
  rw [← hw2]
  clear hw2
  have z0 := (HO.out w2 HR2.out).c0
  go_upto_region 2 with fail
  clear z0
  have HCa := hid (fun (U : World) (h : Ds U H X l) => dgiven h (ko, kh, kl) nd HWd.out)
  have HCq := hid (fun (U : World) (h : Rq U H X l t) => rgiven_any h HIv.out (ko, kh, kl) nd)
  generalize givE X l nd (ko, kh, kl) = E at *
  have HS_16 : Hid (∀ U, But H.Sw w2 U → (U.cell? ⟨H.d, 1, none⟩ = some (.pointer (some ⟨H.v, 0, none⟩)) ∧ U.cell? ⟨H.d, 2, none⟩ = some (.pointer (some ⟨H.r, 0, none⟩)) ∧ U.cell? ⟨w.heap.size, 1, none⟩ = some (.int .i64 ko) ∧ U.cell? ⟨w.heap.size, 2, none⟩ = some (.int .u64 (kh : Int)) ∧ U.cell? ⟨w.heap.size, 3, none⟩ = some (.int .u64 (kl : Int)) ∧ U.cell? ⟨w.heap.size, 5, none⟩ = some (.int .i64 nd)) ∧ But H.Sw w2 U) := fun U hU => ⟨⟨(HT.out U hU).c1, (HT.out U hU).c2, (HO.out U hU).c1, (HO.out U hU).c2, (HO.out U hU).c3, (HO.out U hU).c5⟩, hU⟩
  go_upto_region 16 with fail
  go_region_held3 (fun U => (U.cell? ⟨H.d, 1, none⟩ = some (.pointer (some ⟨H.v, 0, none⟩)) ∧ U.cell? ⟨H.d, 2, none⟩ = some (.pointer (some ⟨H.r, 0, none⟩)) ∧ U.cell? ⟨w.heap.size, 1, none⟩ = some (.int .i64 ko) ∧ U.cell? ⟨w.heap.size, 2, none⟩ = some (.int .u64 (kh : Int)) ∧ U.cell? ⟨w.heap.size, 3, none⟩ = some (.int .u64 (kl : Int)) ∧ U.cell? ⟨w.heap.size, 5, none⟩ = some (.int .i64 nd)) ∧ But H.Sw w2 U) (first | exact HS_16.out _ HB_17.out | exact HS_16.out _ HB_16.out | exact HS_16.out _ (HR2.out.call (Below.refl _ _).drew)) (first
    | (go_at_call 12; refine (num_any _ _).mono ?_; rintro e w9 ⟨rfl, hw9⟩; obtain rfl := hw9.symm; clear hw9)
    | (go_at_call 21; refine (HCq.out _ HQ3.out).mono ?_; rintro e w4 ⟨rfl, hb⟩; have HB_17 := hid (HB_16.out.call hb); have HD4 := hid (HD3.out.later hb); have HQ4 := hid (HQ3.out.later hb); clear hb)
    | (go_at_call 11; refine (HCa.out _ (HD2.out.later (Below.refl w2.heap.size w2).drew)).mono ?_; rintro e w3 ⟨rfl, hd, hb⟩; have HD3 := hid hd; have HQ3 := hid ((HQ2.out.later (Below.refl w2.heap.size w2).drew).pw HDi.out hb); have HB_16 := hid ((HR2.out.call (Below.refl w2.heap.size w2).drew).trans (Hv.Sw.p hb)); clear hd hb))
  go_wp2
  go_ret
  exact ⟨rfl, ⟨_, _, HD4.out, HQ4.out.up⟩, HEnd.out _ HB_17.out⟩
set_option maxRecDepth 100000 in
set_option maxHeartbeats 4000000 in
theorem step6 (h : Ds w H X l) (hq : Rq w H X l t) (hm : H.mo = mo) (ht : t < 9223372036854775807) (kd : Int) (c : Cp) (p nd : Int) (la : Option Addr) (ln lc : Nat) (hw : c.2.1 < B64 ∧ c.2.2 < B64) (hH : ∀ k, H.All k → k < w.heap.size) (hk : kd ≠ 1 ∧ kd ≠ 2 ∧ kd ≠ 3 ∧ kd ≠ 4 ∧ kd ≠ 5) :
    Calls Try.prog 18 #[.pointer (some ⟨H.d, 0, none⟩), opV kd c p nd la ln lc] w (Sd w H t) := by
  obtain ⟨ko, kh, kl⟩ := c
  obtain ⟨w2, hw2⟩ : ∃ w2, w2 = w.alloc (Obj.cells #[.int .i64 kd, .int .i64 ko, .int .u64 (kh : Int), .int .u64 (kl : Int), .int .i64 p, .int .i64 nd, .slice la ln lc] 54) := ⟨_, rfl⟩
  have hB2 : Below w.heap.size w w2 := by rw [hw2]; exact below1 _ _
  have hbq : Bq w2 w.heap.size kd ko kh kl p nd la ln lc := by rw [hw2]; exact ⟨by simp [go_sem], by simp [go_sem], by simp [go_sem], by simp [go_sem], by simp [go_sem], by simp [go_sem], by simp [go_sem]⟩
  have HO : Hid (∀ U, But H.Sw w2 U → Bq U w.heap.size kd ko kh kl p nd la ln lc) := fun U hU => hbq.but hU (fun e => absurd (hH _ e.all) (by omega))
  have HD2 := hid (h.later hB2)
  have HQ2 := hid (hq.later hB2)
  have HT : Hid (∀ U, But H.Sw w2 U → Tp U H.d H.A.g H.v H.r) := fun U hU => HD2.out.tp.but hU HD2.out.vt.dis.sd
  have HR2 : Hid (But H.Sw w2 w2) := But.refl _ _
  have HDi := hid h.vt.dis
  have HIv := hid h.vt.inv
  have HWd := hid hw
  have HEnd : Hid (∀ U, But H.Sw w2 U → But H.Sw w U) := fun U hU => (But.of hB2).trans hU
  have HMo := hid hm
  clear h hq hw hH hB2 hbq hm
  unfold opV
  go_enter Try.func18, Try.ntmps18
  go_upto_region 1 with fail
  rw [← hw2]
  clear hw2
  have z0 := (HO.out w2 HR2.out).c0
  go_upto_region 2 with fail
  clear z0
  have g1 : (kd == 1) = false := by simp [hk.1]
  have g2 : (kd == 2) = false := by simp [hk.2.1]
  have g3 : (kd == 3) = false := by simp [hk.2.2.1]
  have g4 : (kd == 4) = false := by simp [hk.2.2.2.1]
  have g5 : (kd == 5) = false := by simp [hk.2.2.2.2]
  clear hk
  have z1 := (HT.out _ HR2.out).c1
  go_wp2_with (first | (go_at_call 14; refine (dgone HD2.out.dg).mono ?_; rintro e w3 ⟨rfl, hd, hb⟩; have HD3 := hid hd; have HQ3 := hid (HQ2.out.pw HDi.out hb); have HB3 := hid (HR2.out.trans (Hv.Sw.p hb)); clear hd hb))
  go_ret
  exact ⟨rfl, ⟨_, _, HD3.out, HQ3.out.up⟩, HEnd.out _ HB3.out⟩
end Go.Proofs.Ytlelglfdamakaaa
