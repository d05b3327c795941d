import Derived.Test.YtnjadfgfpebkdaaGreatSE
import Derived.Shelf.SlIterI.Nil
import Derived.Shelf.SortM.Plain
import Derived.Shelf.SortM.SortNone
namespace Go.Proofs.YtnjadfgfpebkdaaGreat.S
open Go.RowKit
set_option linter.unusedVariables false

theorem allP_append (Os : List Ob) (o : Ob) : allP (Os ++ [o]) = allP Os ++ o.pages := by simp [allP]
/-- The store behind a Create. -/
theorem Sto.create {w w' : World} {s g pb m n room : Nat} {nx : Int} {t : Nat → Bool} {B : Nat → Nat → Nat} {Os : List Ob} {k : Nat} {a : Option Addr} (h : Sto w s g pb m n room nx t B Os) (hk : k ≤ 4096) (hf : needN k ≤ (lst n t false).length) (hroom : Os.length < room) (hnx : nx ≤ 4611686018427387904)
    (hA : Arn w' g pb n (tk t ((lst n t false).take (needN k))) B) (hrow : Row w' a (needN k) (needN k) (ints (nats ((lst n t false).take (needN k))))) (hblk : ∀ j, Blk a j → w.heap.size ≤ j ∧ j < w'.heap.size)
    (x0 : Lies w' ⟨s, 0, none⟩ (.pointer (some ⟨g, 0, none⟩))) (x1 : Lies w' ⟨s, 1, none⟩ (.map (some m))) (x2 : Lies w' ⟨s, 2, none⟩ (.int .i64 (room : Int))) (x3 : Lies w' ⟨s, 3, none⟩ (.int .i64 (nx + 1)))
    (hmap : w'.ownsMap Tryz.prog 3 hr m (Os.length + 1) (mapD (Os ++ [⟨nx, List.replicate k 0, (lst n t false).take (needN k), a⟩]))) (hb : But (Sb s g pb m) w w') :
    Sto w' s g pb m n room (nx + 1) (tk t ((lst n t false).take (needN k))) B (Os ++ [⟨nx, List.replicate k 0, (lst n t false).take (needN k), a⟩]) := by
  generalize hP : (lst n t false).take (needN k) = P at *
  have hPl : P.length = needN k := by rw [← hP, List.length_take]; omega
  have hPm : ∀ i ∈ P, t i = false := fun i hi => (mem_lst.1 (List.mem_of_mem_take (hP ▸ hi))).2
  have hPn : P.Nodup := by rw [← hP]; exact (List.take_sublist _ _).nodup (lst_nodup _ _ _)
  have hsl := World.block_lt_of_cell? _ _ h.c0.1
  have hgl := h.arn.glt
  have hpl := h.arn.lt
  have hml := h.map.lt
  have hmem : ∀ p, p ∈ Os ++ [⟨nx, List.replicate k 0, P, a⟩] → p ∈ Os ∨ p = ⟨nx, List.replicate k 0, P, a⟩ := fun p hp => by
    rcases List.mem_append.1 hp with h1 | h1
    · exact .inl h1
    · exact .inr (by simpa using h1)
  refine ⟨hA, x0, x1, x2, x3, by rw [List.length_append]; exact hmap, h.sg, h.sp, h.sm, h.gm, h.pm, fun p hp => ?_, fun p hp j hj => ?_, fun p hp => ?_, ?_, fun i => ?_, fun p hp j hj => ?_, ?_, fun p hp => ?_, ⟨by have := h.nx1; omega, by omega⟩, ⟨by rw [List.length_append]; simp; omega, h.rm.2⟩, fun p hp => ?_⟩
  · rcases hmem p hp with h1 | rfl
    · refine (h.rows p h1).but hb (fun j hj => ?_)
      obtain ⟨a1, a2, a3, a4, a5⟩ := h.off p h1 j hj
      rintro (e | e | e | e)
      · exact a1 e
      · exact a2 e
      · exact a3 e
      · exact a4 e
    · simp only [hPl]
      exact hrow
  · rcases hmem p hp with h1 | rfl
    · obtain ⟨a1, a2, a3, a4, a5⟩ := h.off p h1 j hj
      exact ⟨a1, a2, a3, a4, Nat.lt_of_lt_of_le a5 hb.size⟩
    · have := hblk j hj
      simp only at hsl
      exact ⟨by omega, by omega, by omega, by omega, this.2⟩
  · rcases hmem p hp with h1 | rfl
    · exact h.len p h1
    · simp [hPl]
  · rw [allP_append, List.nodup_append]
    refine ⟨h.nd, hPn, fun i hi j hj e => ?_⟩
    subst e
    have h1 := hPm i hj
    rw [h.tks i] at h1
    exact absurd hi (by simpa using h1)
  · rw [allP_append]
    simp only [tk, h.tks i, List.mem_append, Bool.decide_or]
  · rcases hmem p hp with h1 | rfl
    · exact h.bytes p h1 j hj
    · simp only [List.length_replicate] at hj
      have hq : j / 64 < P.length := by rw [hPl]; unfold needN; omega
      simp only
      rw [h.arn.zero _ _ (hPm _ (getD_mem hq))]
      simp [List.getD_eq_getElem?_getD, hj]
  · rw [List.pairwise_append]
    refine ⟨h.rise, by simp, fun p hp q hq => ?_⟩
    simp only [List.mem_singleton] at hq
    subst hq
    exact (h.ids p hp).2
  · rcases hmem p hp with h1 | rfl
    · have := h.ids p h1
      omega
    · have := h.nx1
      simp only
      omega
  · rcases hmem p hp with h1 | rfl
    · exact h.big p h1
    · simpa using hk
theorem mayE_zero {room n : Nat} {nx : Int} {Os : List Ob} {size : Int} (h : mayE room n nx Os size = 0) : 0 ≤ size ∧ size ≤ 4096 ∧ Os.length < room ∧ nx ≤ 4611686018427387904 ∧ needN size.toNat ≤ n - usedN Os := by
  unfold mayE at h
  repeat' split at h
  · omega
  · omega
  · omega
  · omega
set_option maxRecDepth 100000 in
set_option maxHeartbeats 1000000 in
theorem create_bad (s g pb m n room : Nat) (nx : Int) (t : Nat → Bool) (B : Nat → Nat → Nat) (Os : List Ob) (size : Int) (E : Int) (w : World) (h : Sto w s g pb m n room nx t B Os) (hE : mayE room n nx Os size = E) (hn : E ≠ 0) :
    Calls Tryz.prog 36 #[.pointer (some ⟨s, 0, none⟩), .int .i64 size] w fun e w' => e = .returned (.tuple #[.int .i64 0, .int .i64 E]) ∧ Below w.heap.size w w' := by
  have H := hid h
  have HE := hid hE
  clear h hE
  go_enter Tryz.func36, Tryz.ntmps36
  go_wp2_with (first | (go_at_call 78; refine (may_any s g pb m n room nx t B Os size _ H.out).mono ?_; rintro e w1 ⟨rfl, hb⟩; rw [HE.out]; have HB := hid hb; clear hb))
  exact bodyPost_ret (v := .tuple #[.int .i64 0, .int .i64 E]) (by simp [results, Tryz.results36, go_sem]) rfl ⟨rfl, HB.out⟩
set_option maxRecDepth 100000 in
set_option maxHeartbeats 2000000 in
theorem create_ok (s g pb m n room : Nat) (nx : Int) (t : Nat → Bool) (B : Nat → Nat → Nat) (Os : List Ob) (k : Nat) (w : World) (h : Sto w s g pb m n room nx t B Os) (hE : mayE room n nx Os (k : Int) = 0) :
    Calls Tryz.prog 36 #[.pointer (some ⟨s, 0, none⟩), .int .i64 (k : Int)] w fun e w' => ∃ a t', e = .returned (.tuple #[.int .i64 nx, .int .i64 0]) ∧ (∀ j, Blk a j → w.heap.size ≤ j ∧ j < w'.heap.size) ∧ Sto w' s g pb m n room (nx + 1) t' B (Os ++ [⟨nx, List.replicate k 0, (lst n t false).take (needN k), a⟩]) ∧ But (Sb s g pb m) w w' := by
  obtain ⟨_, hk, hroom, hnx, hneed⟩ := mayE_zero hE
  rw [Int.toNat_natCast] at hneed
  have hk2 : k ≤ 4096 := by omega
  have hf : needN k ≤ (lst n t false).length := by have := h.count; omega
  have H := hid h
  have HE := hid hE
  have HR := hid hroom
  have HF := hid hf
  have hsg := h.sg
  have hsm := h.sm
  have hgm := h.gm
  have hnx1 := h.nx1.1
  clear h hE hroom hf hneed hk
  go_enter Tryz.func36, Tryz.ntmps36
  go_upto_region 4 with (first | (go_at_call 78; refine (may_any s g pb m n room nx t B Os (k : Int) _ H.out).mono ?_; rintro e w1 ⟨rfl, hb⟩; rw [HE.out]; have HB := hid hb; clear hb))
  have H1 := hid (H.out.later HB.out)
  have HS : Hid (∀ W, But (· = g) w1 W → (W.cell? ⟨s, 0, none⟩ = some (.pointer (some ⟨g, 0, none⟩))) ∧ But (· = g) w1 W) := hid (fun W hW => ⟨cell_but hW H1.out.c0.1 hsg, hW⟩)
  go_region_held3 (fun W => (W.cell? ⟨s, 0, none⟩ = some (.pointer (some ⟨g, 0, none⟩))) ∧ But (· = g) w1 W) (first | exact HS.out _ (But.of (Below.refl _ _).drew) | exact HS.out _ hb2.out) (first
    | (go_at_call 80; refine (need_any k _ hk2).mono ?_; rintro e w2 ⟨rfl, hw⟩; obtain rfl := hw.symm)
    | (go_at_call 79; refine (take_ok g pb n t B (needN k) _ (H1.out.arn.later (Below.refl _ _).drew) HF.out).mono ?_; rintro e w2 ⟨a, rfl, R2, A2, b2⟩; have hb2 := hid ((But.of (S := (· = g)) (Below.refl w1.heap.size w1).drew).trans b2)))
  have HA2 := hid A2
  have HR2 := hid R2
  have y0 := H1.out.c0.but hb2.out hsg
  have y1 := H1.out.c1.but hb2.out hsg
  have y2 := H1.out.c2.but hb2.out hsg
  have y3 := H1.out.c3.but hb2.out hsg
  have hm2 := owns_but hb2.out H1.out.map (fun e => hgm e.symm)
  obtain ⟨P, hP⟩ : ∃ P, P = (lst n t false).take (needN k) := ⟨_, rfl⟩
  obtain ⟨K, hK⟩ : ∃ K, K = needN k := ⟨_, rfl⟩
  have hPl : P.length = K := by rw [hP, hK, List.length_take]; have := HF.out; omega
  obtain ⟨w3, hrun, hm3, htn⟩ := hm2.store law3 Tryz.underlying104 (by have := HR.out; have := H.out.rm.2; unfold maxLen; omega) (key := .int .i64 nx) (kl := .int .i64 nx) (key3 (by omega)) (val := .agg #[.int .i64 (k : Int), .slice a K K]) (d := .held (.agg #[.int .i64 (k : Int), .slice a K K])) (ps := []) rfl
  have hb3 := turned_but htn
  have hsmn : ¬ s = m := hsm
  have z0 := y0.but hb3 hsmn
  have z1 := y1.but hb3 hsmn
  have z2 := y2.but hb3 hsmn
  have z3 := y3.but hb3 hsmn
  have HM3 : Hid (w3.ownsMap Tryz.prog 3 hr m (Os.length + 1) (mapD (Os ++ [⟨nx, List.replicate k 0, P, a⟩]))) := hid (by
    have e := put_mapD Os ⟨nx, List.replicate k 0, P, a⟩ (fun p hp => (H.out.ids p hp).2)
    simp only [Ob.val, List.length_replicate, hPl] at e
    rw [← e]
    exact hm3)
  have HZ0 := hid z0
  have HZ1 := hid z1
  have HZ2 := hid z2
  have HZ3 := hid z3
  have HB3 := hid hb3
  have e1 := y1.1
  have e3 := y3.1
  have f3 := z3.1
  have g3 := z3.2
  have hwr : IntKind.i64.wrap (nx + 1) = nx + 1 := by rw [IntKind.wrap_i64]; omega
  rw [← hK]
  have HP := hid hP
  have HK := hid hK
  have HPL := hid hPl
  clear A2 R2 b2 y0 y1 y2 y3 hm2 hm3 htn hb3 z0 z1 z2 z3 hP hK hPl hw
  go_wp2
  have hP := HP.out
  have hK := HK.out
  subst hK
  have hsz := HB.out.size
  have hml := H1.out.map.lt
  have hsl : s < w1.heap.size := World.block_lt_of_cell? _ _ H1.out.c0.1
  have b4 : But (· = s) w3 (w3.setCell ⟨s, 3, none⟩ (.int .i64 (nx + 1))) := But.setCell (S := (· = s)) (But.refl _ _) (p := ⟨s, 3, none⟩) (show s = s from rfl) _
  have hge := HR2.out.ge
  have hlt := HR2.out.lt
  have hdw : w1.drew.heap.size = w1.heap.size := rfl
  rw [hdw] at hge
  have hall : But (Sb s g pb m) w (w3.setCell ⟨s, 3, none⟩ (.int .i64 (nx + 1))) := (((But.of HB.out).trans (hb2.out.mono (fun _ h => .inr (.inl h)))).trans (HB3.out.mono (fun _ h => .inr (.inr (.inr h))))).trans (b4.mono (fun _ h => .inl h))
  refine bodyPost_ret (v := .tuple #[.int .i64 nx, .int .i64 0]) (by simp [results, Tryz.results36, go_sem]) rfl ⟨a, tk t ((lst n t false).take (needN k)), rfl, fun j hj => ⟨by have := hge j hj; omega, Nat.lt_of_lt_of_le (hlt j hj) (Nat.le_trans HB3.out.size b4.size)⟩, ?_, hall⟩
  rw [hP] at HM3
  refine H.out.create hk2 HF.out HR.out hnx ((HA2.out.but HB3.out hgm H.out.pm).but b4 (Ne.symm hsg) (Ne.symm H.out.sp)) ((HR2.out.row.but HB3.out (fun j hj e => ?_)).but b4 (fun j hj e => ?_)) (fun j hj => ⟨by have := hge j hj; omega, Nat.lt_of_lt_of_le (hlt j hj) (Nat.le_trans HB3.out.size b4.size)⟩) (HZ0.out.other (by simp)) (HZ1.out.other (by simp)) (HZ2.out.other (by simp)) HZ3.out.put (HM3.out.setCell (a := ⟨s, 3, none⟩) (Ne.symm hsm) _) hall
  · have := hge j hj
    omega
  · have := hge j hj
    omega
/-- The store behind a Destroy. -/
theorem mem_without {id : Int} {Os : List Ob} {p : Ob} : p ∈ without id Os ↔ p ∈ Os ∧ p.id ≠ id := by simp [without]
theorem allP_without {Os : List Ob} {id : Int} {o : Ob} (hr : Os.Pairwise (fun a b => a.id < b.id)) (hn : (allP Os).Nodup) (ho : at? Os id = some o) (i : Nat) : i ∈ allP (without id Os) ↔ i ∈ allP Os ∧ ¬ i ∈ o.pages := by
  have hm := at_mem ho
  simp only [allP, List.mem_flatMap, mem_without]
  constructor
  · rintro ⟨p, ⟨hp, hne⟩, hi⟩
    exact ⟨⟨p, hp, hi⟩, (nodup_flat hn).2 p hp o hm.1 (by rw [hm.2]; exact hne) i hi⟩
  · rintro ⟨⟨p, hp, hi⟩, hno⟩
    exact ⟨p, ⟨hp, fun e => hno (by rw [← at_uniq hr ho hp e]; exact hi)⟩, hi⟩
theorem nodup_without (id : Int) : ∀ (Os : List Ob), (allP Os).Nodup → (allP (without id Os)).Nodup
  | [], h => h
  | a :: r, h => by
    have h2 : (a.pages ++ allP r).Nodup := by simpa [allP] using h
    rw [List.nodup_append] at h2
    have ih := nodup_without id r h2.2.1
    unfold without at ih ⊢
    rw [List.filter_cons]
    split
    · show (a.pages ++ allP _).Nodup
      rw [List.nodup_append]
      refine ⟨h2.1, ih, fun x hx y hy => h2.2.2 x hx y ?_⟩
      obtain ⟨p, hp, hy⟩ := List.mem_flatMap.1 hy
      exact List.mem_flatMap.2 ⟨p, (List.mem_filter.1 hp).1, hy⟩
    · exact ih
theorem mem_nats {l : List Nat} {i : Nat} : ((i : Int) ∈ nats l) ↔ i ∈ l := by
  simp only [nats, List.mem_map]
  constructor
  · rintro ⟨x, hx, e⟩
    have : x = i := by omega
    exact this ▸ hx
  · intro h
    exact ⟨i, h, rfl⟩
theorem Sto.destroy {w w' : World} {s g pb m n room : Nat} {nx : Int} {t : Nat → Bool} {B : Nat → Nat → Nat} {Os : List Ob} {id : Int} {o : Ob} (h : Sto w s g pb m n room nx t B Os) (ho : at? Os id = some o)
    (hA : Arn w' g pb n (gT t (nats o.pages)) (gB B (nats o.pages))) (x0 : Lies w' ⟨s, 0, none⟩ (.pointer (some ⟨g, 0, none⟩))) (x1 : Lies w' ⟨s, 1, none⟩ (.map (some m))) (x2 : Lies w' ⟨s, 2, none⟩ (.int .i64 (room : Int))) (x3 : Lies w' ⟨s, 3, none⟩ (.int .i64 nx))
    (hmap : w'.ownsMap Tryz.prog 3 hr m Os.length (mapD (without id Os))) (hb : But (Sb s g pb m) w w') : Sto w' s g pb m n room nx (gT t (nats o.pages)) (gB B (nats o.pages)) (without id Os) := by
  have hm := at_mem ho
  have hnf := nodup_flat h.nd
  refine ⟨hA, x0, x1, x2, x3, owns_tight hmap, h.sg, h.sp, h.sm, h.gm, h.pm, fun p hp => ?_, fun p hp j hj => ?_, fun p hp => h.len p (mem_without.1 hp).1, nodup_without id Os h.nd, fun i => ?_, fun p hp j hj => ?_, ?_, fun p hp => h.ids p (mem_without.1 hp).1, h.nx1, ⟨Nat.le_trans (List.length_filter_le _ _) h.rm.1, h.rm.2⟩, fun p hp => h.big p (mem_without.1 hp).1⟩
  · refine (h.rows p (mem_without.1 hp).1).but hb (fun j hj => ?_)
    obtain ⟨a1, a2, a3, a4, a5⟩ := h.off p (mem_without.1 hp).1 j hj
    rintro (e | e | e | e)
    · exact a1 e
    · exact a2 e
    · exact a3 e
    · exact a4 e
  · obtain ⟨a1, a2, a3, a4, a5⟩ := h.off p (mem_without.1 hp).1 j hj
    exact ⟨a1, a2, a3, a4, Nat.lt_of_lt_of_le a5 hb.size⟩
  · have e := allP_without h.rise h.nd ho i
    simp only [gT, h.tks i, mem_nats, e, Bool.decide_and, decide_not]
  · obtain ⟨hp1, hp2⟩ := mem_without.1 hp
    have hlp := h.len p hp1
    have hq : j / 64 < p.pages.length := by unfold needN at hlp; omega
    have hno := hnf.2 p hp1 o hm.1 (by rw [hm.2]; exact hp2) _ (getD_mem hq)
    rw [gB, if_neg (fun e => hno (mem_nats.1 e))]
    exact h.bytes p hp1 j hj
  · exact List.Pairwise.filter _ h.rise
set_option maxRecDepth 100000 in
set_option maxHeartbeats 1000000 in
theorem destroy_none (s g pb m n room : Nat) (nx : Int) (t : Nat → Bool) (B : Nat → Nat → Nat) (Os : List Ob) (id : Int) (w : World) (h : Sto w s g pb m n room nx t B Os) (hi : -9223372036854775808 ≤ id ∧ id < 9223372036854775808) (ho : at? Os id = none) :
    Calls Tryz.prog 100 #[.pointer (some ⟨s, 0, none⟩), .int .i64 id] w fun e w' => e = .returned (.int .i64 20) ∧ Below w.heap.size w w' := by
  have x := h.c1.1
  have hl := look_none h hi ho
  have hz := zero_of info106
  clear h
  go_enter Tryz.func100, Tryz.ntmps100
  go_wp2
  go_ret
  exact ⟨rfl, below1 _ _⟩
theorem give_ok (g pb n : Nat) (t : Nat → Bool) (B : Nat → Nat → Nat) (a : Option Addr) (m cap : Nat) (l : List Int) (w : World) (h : Arn w g pb n t B) (hR : Row w a m cap (ints l)) (hm63 : m < 9223372036854775807) (hap : ∀ k, Blk a k → k ≠ pb) (hok : gOk n t l) :
    Calls Tryz.prog 121 #[.pointer (some ⟨g, 0, none⟩), .slice a m cap] w fun e w' => e = .returned (.int .i64 0) ∧ Arn w' g pb n (gT t l) (gB B l) ∧ But (fun k => k = g ∨ k = pb) w w' := by
  refine (give_any g pb n t B a m cap l w h hR hm63 hap).mono ?_
  rintro e w' (⟨_, h1, h2, h3⟩ | ⟨h1, _⟩)
  · exact ⟨h1, h2, h3⟩
  · exact absurd hok h1
set_option maxRecDepth 100000 in
set_option maxHeartbeats 2000000 in
theorem destroy_ok (s g pb m n room : Nat) (nx : Int) (t : Nat → Bool) (B : Nat → Nat → Nat) (Os : List Ob) (id : Int) (o : Ob) (w : World) (h : Sto w s g pb m n room nx t B Os) (hi : -9223372036854775808 ≤ id ∧ id < 9223372036854775808) (ho : at? Os id = some o) :
    Calls Tryz.prog 100 #[.pointer (some ⟨s, 0, none⟩), .int .i64 id] w fun e w' => ∃ t' B', e = .returned (.int .i64 0) ∧ Sto w' s g pb m n room nx t' B' (without id Os) ∧ But (Sb s g pb m) w w' := by
  have x := h.c1.1
  have hl := look_some h hi ho
  have hz := zero_of info106
  have hmem := (at_mem ho).1
  have H := hid h
  have hsg := h.sg
  have hsp := h.sp
  have hsm := h.sm
  have hgm := h.gm
  have hpm := h.pm
  obtain ⟨w1, hw1⟩ : ∃ w1, w1 = w.alloc (Obj.cells #[Value.int .i64 (o.data.length : Int), Value.slice o.adr o.pages.length o.pages.length] 106) := ⟨_, rfl⟩
  have HB1 : Hid (Below w.heap.size w w1) := hid (by rw [hw1]; exact below1 _ _)
  have HC1 : Hid (w1.cell? ⟨w.heap.size, 1, none⟩ = some (.slice o.adr o.pages.length o.pages.length)) := hid (by rw [hw1]; exact (lies_new _ _ _ 1 _ rfl).1)
  have H1 := hid (h.later HB1.out)
  obtain ⟨w2, hdel, hm2, htn⟩ := H1.out.map.drop law3 Tryz.underlying104 (key := .int .i64 id) (kl := .int .i64 id) (key3 hi) 0
  have hb2 := turned_but htn
  rw [del_mapD] at hm2
  have HM2 := hid hm2
  have HB2 := hid hb2
  have y1 := H1.out.c1.1
  clear h hm2 htn hb2
  rw [hw1] at hdel y1
  go_enter Tryz.func100, Tryz.ntmps100
  go_upto_region 5 with fail
  clear hz hl x y1 hdel hw1
  have HGP : Hid (∀ W, But (fun k => k = g ∨ k = pb) w2 W → (W.cell? ⟨s, 0, none⟩ = some (.pointer (some ⟨g, 0, none⟩)) ∧ W.cell? ⟨w.heap.size, 1, none⟩ = some (.slice o.adr o.pages.length o.pages.length)) ∧ But (fun k => k = g ∨ k = pb) w2 W) := hid (by
    intro W hW
    have h1 := H.out.arn.glt
    have h2 := H.out.arn.lt
    have h3 := H.out.map.lt
    refine ⟨⟨cell_but hW (cell_but HB2.out H1.out.c0.1 hsm) (fun e => e.elim hsg hsp), cell_but hW (cell_but HB2.out HC1.out ?_) ?_⟩, hW⟩
    · show ¬ w.heap.size = m
      omega
    · show ¬ (w.heap.size = g ∨ w.heap.size = pb)
      omega)
  have HA2 := hid (H1.out.arn.but HB2.out hgm hpm)
  have HR2 := hid ((H1.out.rows o hmem).but HB2.out (fun j hj => (H.out.off o hmem j hj).2.2.2.1))
  have HAP := hid (fun j hj => (H.out.off o hmem j hj).2.2.1)
  have HPL : Hid (o.pages.length < 9223372036854775807) := hid (by have := H.out.len o hmem; have := H.out.big o hmem; unfold needN at *; omega)
  have HOK : Hid (gOk n t (nats o.pages)) := hid (by
    refine ⟨fun z hz => ?_, ?_⟩
    · simp only [nats, List.mem_map] at hz
      obtain ⟨p, hp, rfl⟩ := hz
      obtain ⟨h1, h2⟩ := H.out.mem hmem hp
      exact ⟨decide_eq_true (by omega), by simpa using h1⟩
    · have hn := (nodup_flat H.out.nd).1 o hmem
      unfold nats List.Nodup
      rw [List.pairwise_map]
      unfold List.Nodup at hn
      rw [List.pairwise_iff_getElem] at hn ⊢
      intro i j hi hj hij e
      exact hn i j hi hj hij (by omega))
  go_region_held3 (fun W => (W.cell? ⟨s, 0, none⟩ = some (.pointer (some ⟨g, 0, none⟩)) ∧ W.cell? ⟨w.heap.size, 1, none⟩ = some (.slice o.adr o.pages.length o.pages.length)) ∧ But (fun k => k = g ∨ k = pb) w2 W) (first | exact HGP.out _ (But.of (Below.refl _ _).drew) | exact HGP.out _ hb3.out) (first
    | (go_at_call 121; refine (give_ok g pb n t B _ _ _ (nats o.pages) _ (HA2.out.later (Below.refl _ _).drew) (HR2.out.later (Below.refl _ _).drew) HPL.out HAP.out HOK.out).mono ?_; rintro e w3 ⟨rfl, A3, b3⟩; have hb3 := hid ((But.of (S := fun k => k = g ∨ k = pb) (Below.refl w2.heap.size w2).drew).trans b3)))
  have HA3 := hid A3
  clear A3 b3
  go_wp2
  go_ret
  have hn2 : ¬ (s = g ∨ s = pb) := fun e => e.elim hsg hsp
  have hall : But (Sb s g pb m) w w3 := ((But.of HB1.out).trans (HB2.out.mono (fun _ h => .inr (.inr (.inr h))))).trans (hb3.out.mono (fun _ h => h.elim (fun e => .inr (.inl e)) (fun e => .inr (.inr (.inl e)))))
  refine ⟨_, _, rfl, H.out.destroy ho HA3.out ((H1.out.c0.but HB2.out hsm).but hb3.out hn2) ((H1.out.c1.but HB2.out hsm).but hb3.out hn2) ((H1.out.c2.but HB2.out hsm).but hb3.out hn2) ((H1.out.c3.but HB2.out hsm).but hb3.out hn2) (owns_but hb3.out HM2.out (fun e => e.elim (fun e => hgm e.symm) (fun e => hpm e.symm))) hall, hall⟩
end Go.Proofs.YtnjadfgfpebkdaaGreat.S
namespace Go.Proofs.YtnjadfgfpebkdaaGreat.S
open Go.RowKit Go.Maps Go.Sort Go.Shelf
set_option linter.unusedVariables false

def keysA_ren : Go.Shelf.Ren := ⟨fun | 7 => 47 | 10 => 93 | n => n, fun | 23 => 104 | 26 => 3 | 3 => 106 | 28 => 102 | 0 => 0 | 27 => 101 | 33 => 161 | 4 => 4 | n => n, fun | n => n⟩
theorem keysA : SlLaysZI.n7 Tryz.prog keysA_ren where
  mixed := by kernel_rfl
  f7 := ⟨ "maps.Keys[map[int]sesame/store.object,int,sesame/store.object]", by decide, Tryz.func47.trans (congrArg some (by kernel_rfl))⟩
  f10 := ⟨ "maps.Keys[map[int]sesame/store.object,int,sesame/store.object]$1", by decide, Tryz.func93.trans (congrArg some (by kernel_rfl))⟩
  t0 := Tryz.underlying0
  a0 := Tryz.isAgg0
  z0 := Tryz.sizeOf0
  v0 := Tryz.zeroValue0
  t4 := Tryz.underlying4
  a4 := Tryz.isAgg4
  z4 := Tryz.sizeOf4
  v4 := Tryz.zeroValue4
  t23 := Tryz.underlying104
  a23 := Tryz.isAgg104
  z23 := Tryz.sizeOf104
  v23 := Tryz.zeroValue104
  t26 := Tryz.underlying3
  a26 := Tryz.isAgg3
  z26 := Tryz.sizeOf3
  v26 := Tryz.zeroValue3
  t27 := Tryz.underlying101
  a27 := Tryz.isAgg101
  z27 := Tryz.sizeOf101
  v27 := Tryz.zeroValue101
  t28 := Tryz.underlying102
  a28 := Tryz.isAgg102
  z28 := Tryz.sizeOf102
  v28 := Tryz.zeroValue102
  t33 := Tryz.underlying161
  a33 := Tryz.isAgg161
  z33 := Tryz.sizeOf161
  v33 := Tryz.zeroValue161
def sortedA_ren : Go.Shelf.Ren := ⟨fun | 6 => 46 | 8 => 91 | 9 => 92 | 11 => 113 | 13 => 115 | 12 => 114 | 23 => 139 | 24 => 140 | 14 => 130 | 15 => 131 | 16 => 132 | 17 => 133 | 18 => 134 | 19 => 135 | 20 => 136 | 21 => 137 | 22 => 138 | 25 => 155 | 26 => 156 | 27 => 157 | 28 => 158 | 29 => 159 | 30 => 160 | 31 => 164 | n => n, fun | 26 => 3 | 28 => 102 | 24 => 36 | 0 => 0 | 3 => 3 | 37 => 190 | 48 => 208 | 50 => 23 | 4 => 4 | 40 => 202 | 39 => 201 | 45 => 55 | 5 => 5 | 9 => 9 | 51 => 220 | 55 => 218 | 57 => 229 | 58 => 93 | 33 => 161 | n => n, fun | n => n⟩
theorem sortedA : SlLaysZI.n6 Tryz.prog sortedA_ren where
  mixed := by kernel_rfl
  f6 := ⟨ "slices.Sorted[int]", by decide, Tryz.func46.trans (congrArg some (by kernel_rfl))⟩
  f8 := ⟨ "slices.Collect[int]", by decide, Tryz.func91.trans (congrArg some (by kernel_rfl))⟩
  f11 := ⟨ "slices.AppendSeq[[]int,int]", by decide, Tryz.func113.trans (congrArg some (by kernel_rfl))⟩
  t0 := Tryz.underlying0
  a0 := Tryz.isAgg0
  z0 := Tryz.sizeOf0
  v0 := Tryz.zeroValue0
  t24 := Tryz.underlying36
  a24 := Tryz.isAgg36
  z24 := Tryz.sizeOf36
  v24 := Tryz.zeroValue36
  t26 := Tryz.underlying3
  a26 := Tryz.isAgg3
  z26 := Tryz.sizeOf3
  v26 := Tryz.zeroValue3
  t28 := Tryz.underlying102
  a28 := Tryz.isAgg102
  z28 := Tryz.sizeOf102
  v28 := Tryz.zeroValue102
  i26 := by kernel_rfl
def sortA_ren : Go.Shelf.Ren := ⟨fun | 5 => 92 | 8 => 115 | 7 => 114 | 19 => 139 | 20 => 140 | 10 => 130 | 11 => 131 | 12 => 132 | 13 => 133 | 14 => 134 | 15 => 135 | 16 => 136 | 17 => 137 | 18 => 138 | 30 => 155 | 31 => 156 | 32 => 157 | 33 => 158 | 34 => 159 | 35 => 160 | 40 => 164 | n => n, fun | 23 => 36 | 25 => 3 | 3 => 3 | 32 => 190 | 22 => 36 | 0 => 0 | 44 => 208 | 46 => 23 | 4 => 4 | 36 => 202 | 35 => 201 | 41 => 55 | 5 => 5 | 9 => 9 | 53 => 220 | 57 => 218 | 63 => 229 | 64 => 93 | n => n, fun | n => n⟩
theorem sortA : SlLaysM.n5 Tryz.prog sortA_ren where
  mixed := by kernel_rfl
  f5 := ⟨ "slices.Sort[[]int,int]", by decide, Tryz.func92.trans (congrArg some (by kernel_rfl))⟩
  f7 := ⟨ "slices.pdqsortOrdered[int]", by decide, Tryz.func114.trans (congrArg some (by kernel_rfl))⟩
  f8 := Tryz.func115.trans (congrArg some (by kernel_rfl))
  f10 := ⟨ "slices.insertionSortOrdered[int]", by decide, Tryz.func130.trans (congrArg some (by kernel_rfl))⟩
  f11 := ⟨ "slices.heapSortOrdered[int]", by decide, Tryz.func131.trans (congrArg some (by kernel_rfl))⟩
  f12 := ⟨ "slices.breakPatternsOrdered[int]", by decide, Tryz.func132.trans (congrArg some (by kernel_rfl))⟩
  f13 := ⟨ "slices.choosePivotOrdered[int]", by decide, Tryz.func133.trans (congrArg some (by kernel_rfl))⟩
  f14 := ⟨ "slices.reverseRangeOrdered[int]", by decide, Tryz.func134.trans (congrArg some (by kernel_rfl))⟩
  f15 := ⟨ "slices.partialInsertionSortOrdered[int]", by decide, Tryz.func135.trans (congrArg some (by kernel_rfl))⟩
  f16 := ⟨ "cmp.Less[int]", by decide, Tryz.func136.trans (congrArg some (by kernel_rfl))⟩
  f17 := ⟨ "slices.partitionEqualOrdered[int]", by decide, Tryz.func137.trans (congrArg some (by kernel_rfl))⟩
  f18 := ⟨ "slices.partitionOrdered[int]", by decide, Tryz.func138.trans (congrArg some (by kernel_rfl))⟩
  f19 := Tryz.func139.trans (congrArg some (by kernel_rfl))
  f20 := Tryz.func140.trans (congrArg some (by kernel_rfl))
  f30 := ⟨ "slices.siftDownOrdered[int]", by decide, Tryz.func155.trans (congrArg some (by kernel_rfl))⟩
  f31 := Tryz.func156.trans (congrArg some (by kernel_rfl))
  f32 := Tryz.func157.trans (congrArg some (by kernel_rfl))
  f33 := ⟨ "slices.medianAdjacentOrdered[int]", by decide, Tryz.func158.trans (congrArg some (by kernel_rfl))⟩
  f34 := ⟨ "slices.medianOrdered[int]", by decide, Tryz.func159.trans (congrArg some (by kernel_rfl))⟩
  f35 := ⟨ "cmp.isNaN[int]", by decide, Tryz.func160.trans (congrArg some (by kernel_rfl))⟩
  f40 := ⟨ "slices.order2Ordered[int]", by decide, Tryz.func164.trans (congrArg some (by kernel_rfl))⟩
  t0 := Tryz.underlying0
  a0 := Tryz.isAgg0
  z0 := Tryz.sizeOf0
  v0 := Tryz.zeroValue0
  t3 := Tryz.underlying3
  a3 := Tryz.isAgg3
  z3 := Tryz.sizeOf3
  v3 := Tryz.zeroValue3
  t4 := Tryz.underlying4
  a4 := Tryz.isAgg4
  z4 := Tryz.sizeOf4
  v4 := Tryz.zeroValue4
  t5 := Tryz.underlying5
  a5 := Tryz.isAgg5
  z5 := Tryz.sizeOf5
  v5 := Tryz.zeroValue5
  t9 := Tryz.underlying9
  a9 := Tryz.isAgg9
  z9 := Tryz.sizeOf9
  v9 := Tryz.zeroValue9
  t22 := Tryz.underlying36
  a22 := Tryz.isAgg36
  z22 := Tryz.sizeOf36
  v22 := Tryz.zeroValue36
  t23 := Tryz.underlying36
  a23 := Tryz.isAgg36
  z23 := Tryz.sizeOf36
  v23 := Tryz.zeroValue36
  t25 := Tryz.underlying3
  a25 := Tryz.isAgg3
  z25 := Tryz.sizeOf3
  v25 := Tryz.zeroValue3
  t32 := Tryz.underlying190
  a32 := Tryz.isAgg190
  z32 := Tryz.sizeOf190
  v32 := Tryz.zeroValue190
  t35 := Tryz.underlying201
  a35 := Tryz.isAgg201
  z35 := Tryz.sizeOf201
  v35 := Tryz.zeroValue201
  t36 := Tryz.underlying202
  a36 := Tryz.isAgg202
  z36 := Tryz.sizeOf202
  v36 := Tryz.zeroValue202
  t41 := Tryz.underlying55
  a41 := Tryz.isAgg55
  z41 := Tryz.sizeOf55
  v41 := Tryz.zeroValue55
  t44 := Tryz.underlying208
  a44 := Tryz.isAgg208
  z44 := Tryz.sizeOf208
  v44 := Tryz.zeroValue208
  t46 := Tryz.underlying23
  a46 := Tryz.isAgg23
  z46 := Tryz.sizeOf23
  v46 := Tryz.zeroValue23
  t53 := Tryz.underlying220
  a53 := Tryz.isAgg220
  z53 := Tryz.sizeOf220
  v53 := Tryz.zeroValue220
  t57 := Tryz.underlying218
  a57 := Tryz.isAgg218
  z57 := Tryz.sizeOf218
  v57 := Tryz.zeroValue218
  t63 := Tryz.underlying229
  a63 := Tryz.isAgg229
  z63 := Tryz.sizeOf229
  v63 := Tryz.zeroValue229
  t64 := Tryz.underlying93
  a64 := Tryz.isAgg93
  z64 := Tryz.sizeOf93
  v64 := Tryz.zeroValue93

/-- slices.Sort at this dump. -/
theorem sortsA (m : Nat) : AnyZI.SortsIn Tryz.prog sortedA_ren Fence.wide m :=
  ⟨fun blk off cap ss W hH hblk hsz => callsIn_wide.2 (AnyM.slices_Sort_int sortA blk off cap ss W hH hblk hsz),
   fun p cap W => callsIn_wide.2 (AnyM.slices_Sort_int_none sortA p cap W)⟩
set_option maxRecDepth 100000 in
set_option maxHeartbeats 1000000 in
theorem ids_raw (s b nn : Nat) (D0 : DataW Value) (w : World) (x : w.cell? ⟨s, 1, none⟩ = some (.map (some b))) (hown : w.ownsMap Tryz.prog 3 hr b nn D0) (hmax : Maps.size D0 ≤ maxLen) (hbytes : Maps.size D0 * 8 ≤ 140737488355328) :
    Calls Tryz.prog 9 #[.pointer (some ⟨s, 0, none⟩)] w fun e w' => ∃ (v : Value) (ss : List Int), e = .returned v ∧ ss.Perm (intKeys D0) ∧
      w'.ownsRow w.heap.size 3 1 v ss.length ((ss.mergeSort leI).map encZ) ∧ (v = .slice none 0 0 ↔ ss = []) ∧ Below w.heap.size w w' := by
  refine (callsIn_wide (n := 6)).1 ?_
  have hbl := hown.lt
  have hseq : SeqGives Fence.wide 2 Tryz.prog 93 #[.pointer (some ⟨w.heap.size, 0, none⟩)] encZ (fun ss => ss.Perm (intKeys D0)) (Maps.size D0) (w.alloc (.cells #[.map (some b)] 104)) :=
    AnyZI.keys_gives (ρ := keysA_ren) { keysA with } Fence.wide _ trivial rfl (by omega) w.heap.size b nn D0 _ (by simp) (by simp) (by
      obtain ⟨es, clock, hb, Ft, hs, hD⟩ := hown
      exact ⟨es, clock, (Below.heap_alloc _ _ b hbl).trans hb, Ft, hs, hD⟩)
  have cK : ∀ mb W, CallsIn Fence.wide 5 Tryz.prog 47 #[.map mb] W fun e w' => e = .returned (.func (.func 93) #[] #[.pointer (some ⟨W.heap.size, 0, none⟩)]) ∧ w' = W.alloc (.cells #[.map mb] 104) := fun mb W => AnyZI.keys_in keysA Fence.wide 5 trivial rfl mb W
  have cS := AnyZI.sorted_in sortedA Fence.wide 5 trivial trivial trivial trivial rfl (by omega) (sortsA _) (enters_of Tryz.func92 (by kernel_rfl) rfl) 93 #[.pointer (some ⟨w.heap.size, 0, none⟩)] trivial (enters_of Tryz.func93 (by kernel_rfl) rfl) _ _ hmax hbytes _ hseq
  change CallsIn _ _ Tryz.prog 46 _ _ _ at cS
  have hfK : Fence.wide.fn 47 := trivial
  have hfS : Fence.wide.fn 46 := trivial
  clear hseq hown
  refine callsIn_of_wp Tryz.func9 rfl trivial ?_ rfl
  simp only [Tryz.ntmps9, List.size_toArray, List.length_cons, List.length_nil, Nat.reduceAdd, Nat.reduceSub, Array.replicate_succ, Array.replicate_zero, List.push_toArray, List.append_toArray, List.nil_append, List.cons_append]
  gi_wp2_with (first
    | (gi_at_call 47; refine (cK _ _).mono ?_; rintro e w' ⟨rfl, rfl⟩)
    | (gi_at_call 46; refine cS.mono ?_; rintro e w' ⟨v, ss, rfl, hS, hrow, hnil, hb⟩))
  go_ret
  exact ⟨v, ss, rfl, hS, own_mono hrow (by simp), hnil, ((Below.refl _ w).alloc (Nat.le_refl _) _).trans (hb.mono (by simp))⟩
theorem ids_any (s g pb m n room : Nat) (nx : Int) (t : Nat → Bool) (B : Nat → Nat → Nat) (Os : List Ob) (w : World) (h : Sto w s g pb m n room nx t B Os) :
    Calls Tryz.prog 9 #[.pointer (some ⟨s, 0, none⟩)] w fun e w' => ∃ a cap, e = .returned (.slice a Os.length cap) ∧ Own w' w.heap.size 3 a Os.length cap (ints (Os.map Ob.id)) ∧ Below w.heap.size w w' := by
  have hrm := h.rm
  refine (ids_raw s m Os.length (mapD Os) w h.c1.1 h.map (by rw [size_mapD]; unfold maxLen; omega) (by rw [size_mapD]; omega)).mono ?_
  rintro e w' ⟨v, ss, rfl, hS, hrow, hnil, hb⟩
  rw [keys_mapD] at hS
  have hl : ss.length = Os.length := by rw [hS.length_eq]; simp
  have hsort : ss.mergeSort leI = Os.map Ob.id := by
    rw [mergeSort_of_perm_i hS]
    refine sorted_keys ?_
    rw [List.pairwise_map]
    exact h.rise
  rw [hsort, hl] at hrow
  obtain ⟨a, cap, rfl⟩ : ∃ a cap, v = .slice a Os.length cap := by
    rcases hrow.2 with ⟨h1, h2⟩ | ⟨g', cap', _, h1, _⟩
    · exact ⟨none, 0, by rw [h1, h2]⟩
    · exact ⟨_, cap', h1⟩
  exact ⟨a, cap, rfl, ⟨hrow, ints_one _⟩, hb⟩
end Go.Proofs.YtnjadfgfpebkdaaGreat.S
