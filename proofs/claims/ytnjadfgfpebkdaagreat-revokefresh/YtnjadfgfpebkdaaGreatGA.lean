import Derived.Test.YtnjadfgfpebkdaaGreatFB
namespace Go.Proofs.YtnjadfgfpebkdaaGreat.D
open Go.RowKit
open Go.Proofs.YtnjadfgfpebkdaaGreat.H (B64 Cp)
set_option linter.unusedVariables false

/-! ### grow, as plain lists -/
def lo8 (x : Int) : Nat := (x % 256).toNat
theorem lo8_lt (x : Int) : lo8 x < 256 := by unfold lo8; omega
def and63 (x : Int) : Int := bits .and .i64 x 63
def upC (mo : Nat) (s : Sta) (o : Opr) : Cp := (pickT (ofL mo s.X s.l o.ob) o.at_).1
def chC (o : Opr) : Cp := (o.ob, o.wh, o.wl)
def chR (mo : Nat) (s : Sta) (o : Opr) : Res := childR mo s.X s.l (findN s.X s.l (upC mo s o)) (chC o) o.rt
def growS (mo : Nat) (s : Sta) (o : Opr) : Sta :=
  if o.kd = 6 then { s with V := S.wrV s.V o.ob (and63 o.sz) [lo8 o.at_, 7] }
  else if o.kd = 0 then
    if (mo : Int) ≤ (s.L.length : Int) then s
    else if S.mayV 8 64 s.nx s.V (intoN o.sz 200 : Int) ≠ 0 then s
    else addS s (s.nx, o.wh, o.wl) (-1) 31 (s.nx + 1) (s.V ++ [(s.nx, List.replicate (intoN o.sz 200) 0)])
  else if ofL mo s.X s.l o.ob = [] ∨ Q.may 256 (mo : Int) s.L o.ob ≠ 0 then s
  else if (chR mo s o).code ≠ 0 then s
  else addS s (chC o) (findN s.X s.l (upC mo s o)) o.rt s.nx s.V
theorem chR_spec {mo : Nat} {s : Sta} (h : Fit mo s) {o : Opr} (ok : o.Ok) (hm : Q.may 256 (mo : Int) s.L o.ob = 0) :
    ((chR mo s o).code ≠ 0 ∧ (chR mo s o).X = s.X ∧ (chR mo s o).l = s.l) ∨ ((chR mo s o).code = 0 ∧ chR mo s o = ⟨(low s.l : Int), 0, s.X.set (low s.l) (chC o, o.rt), s.l ++ [((low s.l : Int), findN s.X s.l (upC mo s o))]⟩ ∧ May s (chC o) (findN s.X s.l (upC mo s o)) o.rt) := by
  have hroom := may_room h (Q.may_zero hm).2
  unfold chR childR addR
  by_cases h1 : findN s.X s.l (upC mo s o) ∉ nums s.l
  · simp only [if_pos h1]; exact .inl ⟨by decide, trivial, trivial⟩
  · simp only [if_neg h1]
    by_cases h2 : ob s.X (findN s.X s.l (upC mo s o)) ≠ (chC o).1
    · simp only [if_pos h2]; exact .inl ⟨by decide, trivial, trivial⟩
    · simp only [if_neg h2]
      by_cases h3 : partB o.rt (rg s.X (findN s.X s.l (upC mo s o))) = false
      · simp only [if_pos h3]; exact .inl ⟨by decide, trivial, trivial⟩
      · simp only [if_neg h3]
        by_cases h4 : hasC s.X s.l (chC o) = true
        · simp only [if_pos h4]; exact .inl ⟨by decide, trivial, trivial⟩
        · simp only [if_neg h4]
          rw [if_neg (by omega)]
          have h3' : partB o.rt (rg s.X (findN s.X s.l (upC mo s o))) = true := by simpa using h3
          exact .inr ⟨rfl, rfl, ⟨by simpa using h4, ⟨ok.wh, ok.wl⟩, partB_valid h3', .inr ⟨Classical.byContradiction h1, Classical.byContradiction h2, h3'⟩⟩⟩
theorem wrV_ids (V : List (Int × List Nat)) (id off : Int) (D : List Nat) : (S.wrV V id off D).map Prod.fst = V.map Prod.fst := by
  unfold S.wrV
  split
  · rw [List.map_map]
    apply List.map_congr_left
    intro p _
    exact S.setV_id _ _ _ p
  · rfl
theorem ids_iff {V W : List (Int × List Nat)} (h : V.map Prod.fst = W.map Prod.fst) (o : Int) : (∃ p ∈ V, p.1 = o) ↔ ∃ p ∈ W, p.1 = o := by
  have : ∀ U : List (Int × List Nat), (∃ p ∈ U, p.1 = o) ↔ o ∈ U.map Prod.fst := fun U => by simp
  rw [this, this, h]
theorem ids_all {V W : List (Int × List Nat)} (h : V.map Prod.fst = W.map Prod.fst) {P : Int → Prop} (hw : ∀ p ∈ W, P p.1) : ∀ p ∈ V, P p.1 := fun p hp => by
  have h1 : p.1 ∈ V.map Prod.fst := List.mem_map.2 ⟨p, hp, rfl⟩
  rw [h] at h1
  obtain ⟨q, hq, e⟩ := List.mem_map.1 h1
  rw [← e]; exact hw q hq
theorem not_new {mo : Nat} {s : Sta} (h : Fit mo s) : hasO s.X s.l s.nx = false := by
  cases ho : hasO s.X s.l s.nx with
  | false => rfl
  | true =>
    obtain ⟨p, hp, e⟩ := (h.obj s.nx).2 ho
    have := h.ids p hp
    omega
theorem growS_fit {mo : Nat} {s : Sta} (h : Fit mo s) (h1 : 1 ≤ s.nx) {o : Opr} (ok : o.Ok) : Fit mo (growS mo s o) := by
  unfold growS
  by_cases k6 : o.kd = 6
  · rw [if_pos k6]
    exact ⟨h.inv, h.cnt, h.len, fun x => by rw [← h.obj x]; exact ids_iff (wrV_ids _ _ _ _) x, ids_all (P := fun x => 1 ≤ x ∧ x < s.nx) (wrV_ids _ _ _ _) h.ids⟩
  · rw [if_neg k6]
    by_cases k0 : o.kd = 0
    · rw [if_pos k0]
      by_cases hq : (mo : Int) ≤ (s.L.length : Int)
      · rw [if_pos hq]; exact h
      · rw [if_neg hq]
        by_cases hm : S.mayV 8 64 s.nx s.V (intoN o.sz 200 : Int) ≠ 0
        · rw [if_pos hm]; exact h
        · rw [if_neg hm]
          have ho := not_new h
          have hroom := may_room h (by omega)
          refine h.add hroom ⟨(rootR_ok (c := (s.nx, o.wh, o.wl)) hroom ho).2, ⟨ok.wh, ok.wl⟩, by decide, .inl ⟨rfl, ho⟩⟩ (fun x => ?_) (fun p hp => ?_)
          · constructor
            · rintro ⟨p, hp, e⟩
              rcases List.mem_append.1 hp with h2 | h2
              · exact .inr ⟨p, h2, e⟩
              · rw [List.mem_singleton] at h2
                subst h2
                exact .inl e.symm
            · rintro (h2 | ⟨p, hp, e⟩)
              · exact ⟨_, List.mem_append.2 (.inr (List.mem_singleton.2 rfl)), h2.symm⟩
              · exact ⟨p, List.mem_append.2 (.inl hp), e⟩
          · rcases List.mem_append.1 hp with h2 | h2
            · have := h.ids p h2; omega
            · rw [List.mem_singleton] at h2
              subst h2
              show 1 ≤ s.nx ∧ s.nx < s.nx + 1
              omega
    · rw [if_neg k0]
      by_cases hq : ofL mo s.X s.l o.ob = [] ∨ Q.may 256 (mo : Int) s.L o.ob ≠ 0
      · rw [if_pos hq]; exact h
      · rw [if_neg hq]
        have hm : Q.may 256 (mo : Int) s.L o.ob = 0 := Classical.byContradiction fun e => hq (.inr e)
        rcases chR_spec h ok hm with ⟨g1, _⟩ | ⟨g1, g2, g3⟩
        · rw [if_pos g1]; exact h
        · rw [if_neg (by rw [g1]; decide)]
          have hroom := may_room h (Q.may_zero hm).2
          refine h.add hroom g3 (fun x => ?_) h.ids
          constructor
          · exact fun h2 => .inr h2
          · rintro (h2 | h2)
            · have hO : hasO s.X s.l o.ob = true := by
                cases hh : hasO s.X s.l o.ob with
                | true => rfl
                | false => exact absurd (.inl ((ofL_nil h.inv o.ob).2 hh)) hq
              rw [h2]; exact (h.obj o.ob).2 hO
            · exact h2
theorem growS_nx {mo : Nat} {s : Sta} (h1 : 1 ≤ s.nx) (o : Opr) : 1 ≤ (growS mo s o).nx := by
  unfold growS
  split
  · exact h1
  · split
    · split
      · exact h1
      · split
        · exact h1
        · show 1 ≤ s.nx + 1; omega
    · split
      · exact h1
      · split
        · exact h1
        · exact h1
theorem cel_new (w : World) (c : Cp) (e : TypeId) : Cel (w.alloc (Obj.cells #[.int .i64 c.1, .int .u64 (c.2.1 : Int), .int .u64 (c.2.2 : Int)] e)) w.heap.size 0 c := ⟨by simp [go_sem], by simp [go_sem], by simp [go_sem]⟩
theorem _root_.Go.Proofs.YtnjadfgfpebkdaaGreat.Cel.zero {w : World} {b : Nat} {c : Cp} (h : Cel w b 0 c) : w.cell? ⟨b, 0, none⟩ = some (.int .i64 c.1) ∧ w.cell? ⟨b, 1, none⟩ = some (.int .u64 (c.2.1 : Int)) ∧ w.cell? ⟨b, 2, none⟩ = some (.int .u64 (c.2.2 : Int)) := ⟨h.c0, h.c1, h.c2⟩
/-- What grow leaves. -/
def Grew (w : World) (H : Hd) (s : Sta) (T : Nat) (N : Nat → Prop) (e : Ending) (w' : World) : Prop :=
  e = .returned (.bool true) ∧ ∃ N', Duo w' H s s (T + 1) N' ∧ Went w N w' N'
end Go.Proofs.YtnjadfgfpebkdaaGreat.D
namespace Go.Proofs.YtnjadfgfpebkdaaGreat.D
open Go.RowKit
open Go.Proofs.YtnjadfgfpebkdaaGreat.H (B64 Cp)
set_option linter.unusedVariables false

set_option maxRecDepth 100000 in
set_option maxHeartbeats 2000000 in
/-- An object is not made: the quota is full. -/
theorem grow0_full {w : World} {H : Hd} {s : Sta} {T : Nat} {N : Nat → Prop} (h : Duo w H s s T N) (o : Opr) (hk : o.kd = 0) (hq : (H.mo : Int) ≤ (s.L.length : Int)) :
    Calls Tryz.prog 8 #[.pointer (some ⟨H.sb, 0, none⟩), .pointer (some ⟨H.rb, 0, none⟩), opV o] w (Grew w H s T N) := by
  obtain ⟨w0, hw0⟩ : ∃ w0, w0 = w.alloc (Obj.cells (opC o) 29) := ⟨_, rfl⟩
  have hB0 : Below w.heap.size w w0 := by rw [hw0]; exact below1 _ _
  have hob : OpB w0 w.heap.size 0 o := by rw [hw0]; exact opb_new w o 29
  have hb6 : (o.kd == 6) = false := by simp [hk]
  have hb0 : (o.kd == 0) = true := by simp [hk]
  have HB0 := hid hB0
  have HD := hid h
  have x0 := hob.zero.1
  have y1 := (h.later hB0).t2.c1
  obtain ⟨pa, cap, hrq⟩ := (h.later hB0).rq
  have y2 := hrq.c2.1
  have y3 := hrq.c1
  obtain ⟨n, hn⟩ : ∃ n, n = s.L.length := ⟨_, rfl⟩
  rw [← hn] at hq y2
  obtain ⟨mo, hmo⟩ : ∃ mo, mo = H.mo := ⟨_, rfl⟩
  rw [← hmo] at hq y3
  have hd : decide ((n : Int) ≥ (mo : Int)) = true := decide_eq_true hq
  have hd2 : decide ((mo : Int) ≤ (n : Int)) = true := decide_eq_true hq
  have hd3 : decide (mo ≤ n) = true := decide_eq_true (by omega)
  unfold opV Grew
  clear h hk hB0 hob hrq hn hmo hq
  go_enter Tryz.func8, Tryz.ntmps8
  go_upto_region 1 with fail
  rw [← hw0]
  clear hw0
  go_upto_region 5 with fail
  go_quiet (fail)
  go_wp2
  go_ret
  exact ⟨rfl, N, (HD.out.mono (Nat.le_succ _)).later (below_drewN HB0.out nq), Went.later (below_drewN HB0.out nq)⟩
set_option maxRecDepth 100000 in
set_option maxHeartbeats 2000000 in
/-- An object is not made: the store refuses. -/
theorem grow0_bad {w : World} {H : Hd} {s : Sta} {T : Nat} {N : Nat → Prop} (h : Duo w H s s T N) (o : Opr) (hk : o.kd = 0) (hq : ¬ (H.mo : Int) ≤ (s.L.length : Int)) (hm : S.mayV 8 64 s.nx s.V (intoN o.sz 200 : Int) ≠ 0) :
    Calls Tryz.prog 8 #[.pointer (some ⟨H.sb, 0, none⟩), .pointer (some ⟨H.rb, 0, none⟩), opV o] w (Grew w H s T N) := by
  obtain ⟨w0, hw0⟩ : ∃ w0, w0 = w.alloc (Obj.cells (opC o) 29) := ⟨_, rfl⟩
  have hB0 : Below w.heap.size w w0 := by rw [hw0]; exact below1 _ _
  have hob : OpB w0 w.heap.size 0 o := by rw [hw0]; exact opb_new w o 29
  have hb6 : (o.kd == 6) = false := by simp [hk]
  have hb0 : (o.kd == 0) = true := by simp [hk]
  have HB0 := hid hB0
  have HD := hid h
  have HD0 := hid (h.later hB0)
  have HOB := hid hob
  have x0 := hob.zero.1
  have y1 := (h.later hB0).t2.c1
  obtain ⟨pa, cap, hrq⟩ := (h.later hB0).rq
  have y2 := hrq.c2.1
  have y3 := hrq.c1
  obtain ⟨n, hn⟩ : ∃ n, n = s.L.length := ⟨_, rfl⟩
  rw [← hn] at hq y2
  obtain ⟨mo, hmo⟩ : ∃ mo, mo = H.mo := ⟨_, rfl⟩
  rw [← hmo] at hq y3
  have hd : decide ((n : Int) ≥ (mo : Int)) = false := decide_eq_false hq
  have hd2 : decide ((mo : Int) ≤ (n : Int)) = false := decide_eq_false hq
  have hd3 : decide (mo ≤ n) = false := decide_eq_false (by omega)
  have HMod := hid (fun U => mod_any o.sz 200 200 rfl U (by decide) (by decide))
  obtain ⟨k, hk2⟩ : ∃ k, k = intoN o.sz 200 := ⟨_, rfl⟩
  rw [← hk2] at hm HMod
  obtain ⟨E, hE⟩ : ∃ E, S.mayV 8 64 s.nx s.V (k : Int) = E := ⟨_, rfl⟩
  rw [hE] at hm
  have HC1 := hid (fun (U : World) (hU : Below w0.heap.size w0 U) => pCreate_bad (HD0.out.later hU) (k : Int) E hE hm)
  have HC2 := hid (fun (U : World) (hU : Below w0.heap.size w0 U) => rCreate_bad (HD0.out.later hU) (k : Int) E hE hm)
  have hEE : (E != E) = false := by simp
  have hE0 : (E != 0) = true := by simp [hm]
  have HS1 : Hid (∀ U, Below w0.heap.size w0 U → U.cell? ⟨H.sb, 2, none⟩ = some (.pointer (some ⟨H.z.s, 0, none⟩)) ∧ U.cell? ⟨H.rb, 2, none⟩ = some (.pointer (some ⟨H.v, 0, none⟩)) ∧ U.cell? ⟨w.heap.size, 4, none⟩ = some (.int .i64 o.sz)) := fun U hU => ⟨(HD0.out.later hU).t1.c2, (HD0.out.later hU).t2.c2, (HOB.out.later hU).zero.2.2.2.2.1⟩
  unfold opV Grew
  clear h hk hB0 hob hrq hn hmo hq hk2 hE hm
  go_enter Tryz.func8, Tryz.ntmps8
  go_upto_region 1 with fail
  rw [← hw0]
  clear hw0
  go_upto_region 5 with fail
  go_quiet (fail)
  have HBq := hid (below_drewN (Below.refl w0.heap.size w0) nq)
  generalize w0.drewN nq = u0 at *
  go_upto_region 7 with fail
  go_region_held3 (fun U => U.cell? ⟨H.sb, 2, none⟩ = some (.pointer (some ⟨H.z.s, 0, none⟩)) ∧ U.cell? ⟨H.rb, 2, none⟩ = some (.pointer (some ⟨H.v, 0, none⟩)) ∧ U.cell? ⟨w.heap.size, 4, none⟩ = some (.int .i64 o.sz)) (first | exact HS1.out _ HB2.out | exact HS1.out _ HB1.out | exact HS1.out _ (below_call HBq.out (Below.refl _ _).drew) | exact HS1.out _ HBq.out) (first
    | (go_at_call 36; refine (HC1.out _ HB1.out).mono ?_; rintro e u2 ⟨rfl, hb2⟩; have HB2 := hid (below_call HB1.out hb2); clear hb2)
    | (go_at_call 10; refine (HMod.out _).mono ?_; rintro e u1 ⟨rfl, hw9⟩; have HB1 : Hid (Below w0.heap.size w0 u1) := (by unfold Hid; rw [hw9]; exact below_call HBq.out (Below.refl _ _).drew); clear hw9))
  go_upto_region 8 with fail
  go_region_held3 (fun U => U.cell? ⟨H.sb, 2, none⟩ = some (.pointer (some ⟨H.z.s, 0, none⟩)) ∧ U.cell? ⟨H.rb, 2, none⟩ = some (.pointer (some ⟨H.v, 0, none⟩)) ∧ U.cell? ⟨w.heap.size, 4, none⟩ = some (.int .i64 o.sz)) (first | exact HS1.out _ HB4.out | exact HS1.out _ HB3.out | exact HS1.out _ (below_call HB2.out (Below.refl _ _).drew) | exact HS1.out _ HB2.out) (first
    | (go_at_call 37; refine (HC2.out _ HB3.out).mono ?_; rintro e u4 ⟨rfl, hb4⟩; have HB4 := hid (below_call HB3.out hb4); clear hb4)
    | (go_at_call 10; refine (HMod.out _).mono ?_; rintro e u3 ⟨rfl, hw9⟩; have HB3 : Hid (Below w0.heap.size w0 u3) := (by unfold Hid; rw [hw9]; exact below_call HB2.out (Below.refl _ _).drew); clear hw9))
  go_wp2
  go_ret
  exact ⟨rfl, N, (HD.out.mono (Nat.le_succ _)).later (below_call HB0.out HB4.out), Went.later (below_call HB0.out HB4.out)⟩
end Go.Proofs.YtnjadfgfpebkdaaGreat.D
