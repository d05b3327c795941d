import Derived.Test.YtffmodpgddecnaaZ06
namespace Go.Proofs.Ytffmodpgddecnaa.V
open Go.RowKit
open Go.Proofs.Ytffmodpgddecnaa.H (B64 Cp)
set_option linter.unusedVariables false
set_option linter.unusedSimpArgs false
section
variable {w w' : World}
theorem evs_at : ∀ (M : List Ev) (j : Nat) (t : Ev), M[j]? = some t → ∀ k, k < 2 → (evs M)[j * 2 + k]? = t.c[k]?
  | [], j, t, h, k, hk => by simp at h
  | x :: M, 0, t, h, k, hk => by
    simp only [List.getElem?_cons_zero, Option.some.injEq] at h
    subst h
    simp only [evs, List.flatMap_cons]
    rw [List.getElem?_append_left (by simp [Ev.c]; omega)]
    simp
  | x :: M, j + 1, t, h, k, hk => by
    rw [List.getElem?_cons_succ] at h
    have := evs_at M j t h k hk
    simp only [evs, List.flatMap_cons] at this ⊢
    rw [List.getElem?_append_right (by simp [Ev.c]; omega), ← this]
    congr 1
    simp [Ev.c]
    omega
theorem evs_len (M : List Ev) : (evs M).length = M.length * 2 := by
  induction M with
  | nil => rfl
  | cons x M ih => simp only [evs, List.flatMap_cons, List.length_append, List.length_cons] at ih ⊢; rw [ih]; simp [Ev.c]; omega
theorem toks_len5 (M : List Tok) : (toks M).length = M.length * 5 := by
  induction M with
  | nil => rfl
  | cons x M ih => simp only [toks, List.flatMap_cons, List.length_append, List.length_cons] at ih ⊢; rw [ih]; simp [encT]; omega
structure Look (w : World) (p : Ps) (a1 : Option Addr) (Q1 : List Ev) (a2 a3 : Option Addr) (Q3 : List Ev) : Prop where
  o : Fl w a1 (evs Q1)
  ok : Q1.map Ev.key = p.O.map obK
  oe : ∀ x ∈ Q1, Fl w x.a x.vs
  t : Fl w a2 (toks p.T)
  q : Fl w a3 (evs Q3)
  pk : Q3.map Ev.key = p.P.map plK
  pe : ∀ x ∈ Q3, Fl w x.a x.vs
theorem Look.later {p : Ps} {a1 a2 a3 : Option Addr} {Q1 Q3 : List Ev} (h : Look w p a1 Q1 a2 a3 Q3) (hb : Below w.heap.size w w') : Look w' p a1 Q1 a2 a3 Q3 := ⟨h.o.later hb, h.ok, fun x hx => (h.oe x hx).later hb, h.t.later hb, h.q.later hb, h.pk, fun x hx => (h.pe x hx).later hb⟩
theorem Tells.look {base : Nat} {p : Ps} {a1 c1 Q1 a2 c2 a3 c3 Q3} (h : Tells w base p a1 c1 Q1 a2 c2 a3 c3 Q3) : Look w p a1 Q1 a2 a3 Q3 := by
  refine ⟨Fl.of h.os.row (by rw [evs_len, h.os.len]), h.ok, fun x hx => ?_, Fl.of h.ts (by rw [toks_len5]), Fl.of h.ps.row (by rw [evs_len, h.ps.len]), h.pk, fun x hx => ?_⟩
  · refine Fl.of (h.os.each x hx) ?_
    have hm : x.key ∈ p.O.map obK := by rw [← h.ok]; exact List.mem_map_of_mem hx
    obtain ⟨v, _, hv⟩ := List.mem_map.1 hm
    simp only [obK, Ev.key, Prod.mk.injEq] at hv
    rw [← hv.2.1, ← hv.2.2, S.u8s_length, Nat.mul_one]
  · refine Fl.of (h.ps.each x hx) ?_
    have hm : x.key ∈ p.P.map plK := by rw [← h.pk]; exact List.mem_map_of_mem hx
    obtain ⟨v, _, hv⟩ := List.mem_map.1 hm
    simp only [plK, Ev.key, Prod.mk.injEq] at hv
    rw [← hv.2.1, ← hv.2.2, caps_len3]
structure Ps.Small (p : Ps) : Prop where
  o : p.O.length ≤ 1048576
  t : p.T.length ≤ 1048576
  q : p.P.length ≤ 1048576
  oe : ∀ v ∈ p.O, v.2.length ≤ 1048576
  pe : ∀ v ∈ p.P, v.2.length ≤ 1048576
theorem key_at {α : Type} {K : α → Int × List Value × Nat} {P : List α} {Q : List Ev} (h : Q.map Ev.key = P.map K) {i : Nat} {v : α} (hv : P[i]? = some v) : ∃ x, Q[i]? = some x ∧ x ∈ Q ∧ x.id = (K v).1 ∧ x.vs = (K v).2.1 ∧ x.len = (K v).2.2 := by
  have h1 : (Q.map Ev.key)[i]? = some (K v) := by rw [h, List.getElem?_map, hv]; rfl
  rw [List.getElem?_map] at h1
  cases hx : Q[i]? with
  | none => rw [hx] at h1; cases h1
  | some x =>
    rw [hx] at h1
    simp only [Option.map_some, Option.some.injEq, Ev.key] at h1
    exact ⟨x, rfl, List.mem_of_getElem? hx, by rw [← h1], by rw [← h1], by rw [← h1]⟩
theorem key_len {α : Type} {K : α → Int × List Value × Nat} {P : List α} {Q : List Ev} (h : Q.map Ev.key = P.map K) : Q.length = P.length := by have := congrArg List.length h; simpa using this
set_option maxRecDepth 100000 in
set_option maxHeartbeats 8000000 in
theorem sameState_eq (p : Ps) {a1 a2 a3 b1 b2 b3 : Option Addr} {c1 c2 c3 d1 d2 d3 : Nat} {Q1 Q3 R1 R3 : List Ev} (h : Look w p a1 Q1 a2 a3 Q3) (k : Look w p b1 R1 b2 b3 R3) (hs : p.Small) :
    Calls Try.prog 15 #[stV a1 p.O.length c1 a2 p.T.length c2 a3 p.P.length c3 p.nx p.px p.t, stV b1 p.O.length d1 b2 p.T.length d2 b3 p.P.length d3 p.nx p.px p.t] w fun e w' => e = .returned (.bool true) ∧ Below w.heap.size w w' := by
  have HH := hid h
  have HK := hid k
  have HSm := hid hs
  obtain ⟨n1, hn1⟩ : ∃ n1, n1 = p.O.length := ⟨_, rfl⟩
  obtain ⟨n2, hn2⟩ : ∃ n2, n2 = p.T.length := ⟨_, rfl⟩
  obtain ⟨n3, hn3⟩ : ∃ n3, n3 = p.P.length := ⟨_, rfl⟩
  have m1 : n1 ≤ 1048576 := by rw [hn1]; exact hs.o
  have m2 : n2 ≤ 1048576 := by rw [hn2]; exact hs.t
  have m3 : n3 ≤ 1048576 := by rw [hn3]; exact hs.q
  have HN1 := hid hn1
  have HN2 := hid hn2
  have HN3 := hid hn3
  rw [← hn1, ← hn2, ← hn3]
  generalize p.nx = nx
  generalize p.px = px
  generalize p.t = ta
  obtain ⟨W, hW⟩ : ∃ W, W = (w.alloc (Obj.cells [.slice a1 n1 c1, .slice a2 n2 c2, .slice a3 n3 c3, .int .i64 nx, .int .i64 px, .int .i64 ta].toArray 56)).alloc (Obj.cells [.slice b1 n1 d1, .slice b2 n2 d2, .slice b3 n3 d3, .int .i64 nx, .int .i64 px, .int .i64 ta].toArray 56) := ⟨_, rfl⟩
  have HB : Hid (Below w.heap.size w W) := by rw [hW]; exact below2 _ _ _
  have HX1 : Hid (R.Bx W w.heap.size [.slice a1 n1 c1, .slice a2 n2 c2, .slice a3 n3 c3, .int .i64 nx, .int .i64 px, .int .i64 ta]) := by rw [hW]; exact R.Bx.later (below1 _ _) (R.Bx.new w _ _)
  have HX2 : Hid (R.Bx W (w.heap.size + 1) [.slice b1 n1 d1, .slice b2 n2 d2, .slice b3 n3 d3, .int .i64 nx, .int .i64 px, .int .i64 ta]) := by
    rw [hW]
    have := R.Bx.new (w.alloc (Obj.cells [.slice a1 n1 c1, .slice a2 n2 c2, .slice a3 n3 c3, .int .i64 nx, .int .i64 px, .int .i64 ta].toArray 56)) [.slice b1 n1 d1, .slice b2 n2 d2, .slice b3 n3 d3, .int .i64 nx, .int .i64 px, .int .i64 ta] 56
    rwa [World.size_alloc] at this
  have HW := hid hW
  clear h k hs hn1 hn2 hn3 hW
  go_enter Try.func15, Try.ntmps15
  go_upto_region 1 with fail
  have hW := HW.out
  rw [← hW]
  clear hW
  have x0 := HX1.out.cell 0 rfl
  have y0 := HX2.out.cell 0 rfl
  have x1 := HX1.out.cell 1 rfl
  have y1 := HX2.out.cell 1 rfl
  have x2 := HX1.out.cell 2 rfl
  have y2 := HX2.out.cell 2 rfl
  have x3 := HX1.out.cell 3 rfl
  have y3 := HX2.out.cell 3 rfl
  have x4 := HX1.out.cell 4 rfl
  have y4 := HX2.out.cell 4 rfl
  have x5 := HX1.out.cell 5 rfl
  have y5 := HX2.out.cell 5 rfl
  go_upto_region 4 with fail
  clear x0 y0 x1 y1 x2 y2 x3 y3 x4 y4 x5 y5
  go_loopw [5] (fun v U => ∃ i : Nat, v = .int .i64 (i : Int) ∧ i ≤ n1 ∧ Below W.heap.size W U) (fun v _ => n1 - S.ivN v)
  case atStart => exact ⟨0, rfl, Nat.zero_le _, Below.refl _ _⟩
  case round =>
    obtain ⟨i, rfl, hi, hB⟩ := hrel
    have HIn := hid hi
    have HB0r := hid hB
    clear hi hB
    have x0 := (R.Bx.later HB0r.out HX1.out).cell 0 rfl
    have y0 := (R.Bx.later HB0r.out HX2.out).cell 0 rfl
    by_cases hlt : i < n1
    · have hd : decide ((i : Int) < (n1 : Int)) = true := decide_eq_true (by omega)
      obtain ⟨v, hv⟩ : ∃ v, p.O[i]? = some v := ⟨_, List.getElem?_eq_getElem (by have := HN1.out; omega)⟩
      obtain ⟨x, hx, hxm, ex1, ex2, ex3⟩ := key_at HH.out.ok hv
      obtain ⟨y, hy, hym, ey1, ey2, ey3⟩ := key_at HK.out.ok hv
      obtain ⟨ga, rfl, hca⟩ := HH.out.o (by rw [evs_len, key_len HH.out.ok]; have := HN1.out; omega)
      obtain ⟨gb, rfl, hcb⟩ := HK.out.o (by rw [evs_len, key_len HK.out.ok]; have := HN1.out; omega)
      have hfx := HH.out.oe x hxm
      have hfy := HK.out.oe y hym
      have hx0 := hca _ _ (evs_at _ i x hx 0 (by omega))
      have hx1 := hca _ _ (evs_at _ i x hx 1 (by omega))
      have hy0 := hcb _ _ (evs_at _ i y hy 0 (by omega))
      have hy1 := hcb _ _ (evs_at _ i y hy 1 (by omega))
      have hln := HSm.out.oe v (List.mem_of_getElem? hv)
      obtain ⟨xi, xv, xn, xa, xc⟩ := x
      obtain ⟨yi, yv, yn, ya, yc⟩ := y
      simp only [obK, Ev.c, List.getElem?_cons_zero, List.getElem?_cons_succ] at ex1 ex2 ex3 ey1 ey2 ey3 hx0 hx1 hy0 hy1 hfx hfy
      subst ex1 ex2 ex3 ey1 ey2 ey3
      obtain ⟨z, hz⟩ : ∃ z, z = v.1 := ⟨_, rfl⟩
      obtain ⟨zl, hzl⟩ : ∃ zl, zl = v.2.length := ⟨_, rfl⟩
      rw [← hz] at hx0 hy0
      rw [← hzl] at hx1 hy1
      have HSb : Hid (∀ U, Below w.heap.size w U → Calls Try.prog 17 #[.slice xa zl xc, .slice ya zl yc] U fun e w' => e = .returned (.bool true) ∧ Below U.heap.size U w') := fun U hU => by rw [hzl]; exact sameBytes_eq v.2 (hfx.later hU) (hfy.later hU) (by omega)
      have HS : Hid (∀ U, Below wr.heap.size wr U → U.cell? ⟨w.heap.size, 0, none⟩ = some (.slice (some ⟨ga, 0, none⟩) n1 c1) ∧ U.cell? ⟨w.heap.size + 1, 0, none⟩ = some (.slice (some ⟨gb, 0, none⟩) n1 d1) ∧ U.cell? ⟨ga, i * 2, none⟩ = some (.int .i64 z) ∧ U.cell? ⟨ga, i * 2 + 1, none⟩ = some (.slice xa zl xc) ∧ U.cell? ⟨gb, i * 2, none⟩ = some (.int .i64 z) ∧ U.cell? ⟨gb, i * 2 + 1, none⟩ = some (.slice ya zl yc)) := fun U hU => by
        have hU3 := below_call HB0r.out hU
        have hU2 := below_call HB.out hU3
        exact ⟨(R.Bx.later hU3 HX1.out).cell 0 rfl, (R.Bx.later hU3 HX2.out).cell 0 rfl, cell_later hU2 hx0, cell_later hU2 hx1, cell_later hU2 hy0, cell_later hU2 hy1⟩
      have HBw : Hid (Below w.heap.size w wr) := below_call HB.out HB0r.out
      clear hca hcb hx hy hv hxm hym hfx hfy hx0 hx1 hy0 hy1 hln hz hzl
      go_upto_region 6 with fail
      clear x0 y0
      go_region_held3 (fun U => U.cell? ⟨w.heap.size, 0, none⟩ = some (.slice (some ⟨ga, 0, none⟩) n1 c1) ∧ U.cell? ⟨w.heap.size + 1, 0, none⟩ = some (.slice (some ⟨gb, 0, none⟩) n1 d1) ∧ U.cell? ⟨ga, i * 2, none⟩ = some (.int .i64 z) ∧ U.cell? ⟨ga, i * 2 + 1, none⟩ = some (.slice xa zl xc) ∧ U.cell? ⟨gb, i * 2, none⟩ = some (.int .i64 z) ∧ U.cell? ⟨gb, i * 2 + 1, none⟩ = some (.slice ya zl yc)) (first | exact HS.out _ (Below.refl _ _).drew | exact HS.out _ HU6.out) (first | (go_at_call 17; refine (HSb.out _ HBw.out.drew).mono ?_; rintro e u6 ⟨rfl, hb6⟩; have HU6 : Hid (Below wr.heap.size wr u6) := below_call (Below.refl _ _).drew hb6; clear hb6))
      all_goals (try go_wp2)
      all_goals exact ⟨⟨i + 1, rfl, by omega, below_call HB0r.out HU6.out⟩, by simp [S.ivN]; omega⟩
    · obtain rfl : n1 = i := by have := HIn.out; omega
      have hd : decide ((n1 : Int) < (n1 : Int)) = false := by simp
      have HBr1 := hid HB0r.out
      go_upto_region 9 with fail
      clear x0 y0
      go_loopw [6] (fun v U => ∃ i : Nat, v = .int .i64 (i : Int) ∧ i ≤ n2 ∧ Below W.heap.size W U) (fun v _ => n2 - S.ivN v)
      case atStart => exact ⟨0, rfl, Nat.zero_le _, HBr1.out⟩
      case round =>
        obtain ⟨i, rfl, hi, hB⟩ := hrel
        have HIn := hid hi
        have HB1r := hid hB
        clear hi hB
        have x0 := (R.Bx.later HB1r.out HX1.out).cell 1 rfl
        have y0 := (R.Bx.later HB1r.out HX2.out).cell 1 rfl
        by_cases hlt : i < n2
        · have hd : decide ((i : Int) < (n2 : Int)) = true := decide_eq_true (by omega)
          obtain ⟨v, hv⟩ : ∃ v, p.T[i]? = some v := ⟨_, List.getElem?_eq_getElem (by have := HN2.out; omega)⟩
          obtain ⟨ga, rfl, hca⟩ := HH.out.t (by rw [toks_len5]; have := HN2.out; omega)
          obtain ⟨gb, rfl, hcb⟩ := HK.out.t (by rw [toks_len5]; have := HN2.out; omega)
          obtain ⟨⟨tb, th, tl⟩, tr, tq⟩ := v
          have hat := toks_at p.T i _ hv
          have HS : Hid (∀ U, Below wr.heap.size wr U → U.cell? ⟨w.heap.size, 1, none⟩ = some (.slice (some ⟨ga, 0, none⟩) n2 c2) ∧ U.cell? ⟨w.heap.size + 1, 1, none⟩ = some (.slice (some ⟨gb, 0, none⟩) n2 d2) ∧ U.cell? ⟨ga, i * 5, none⟩ = some (.int .i64 tb) ∧ U.cell? ⟨ga, i * 5 + 1, none⟩ = some (.int .u64 (th : Int)) ∧ U.cell? ⟨ga, i * 5 + 2, none⟩ = some (.int .u64 (tl : Int)) ∧ U.cell? ⟨ga, i * 5 + 3, none⟩ = some (.int .i64 tr) ∧ U.cell? ⟨ga, i * 5 + 4, none⟩ = some (.int .i64 tq) ∧ U.cell? ⟨gb, i * 5, none⟩ = some (.int .i64 tb) ∧ U.cell? ⟨gb, i * 5 + 1, none⟩ = some (.int .u64 (th : Int)) ∧ U.cell? ⟨gb, i * 5 + 2, none⟩ = some (.int .u64 (tl : Int)) ∧ U.cell? ⟨gb, i * 5 + 3, none⟩ = some (.int .i64 tr) ∧ U.cell? ⟨gb, i * 5 + 4, none⟩ = some (.int .i64 tq)) := fun U hU => by
            have hU3 := below_call HB1r.out hU
            have hU2 := below_call HB.out hU3
            exact ⟨(R.Bx.later hU3 HX1.out).cell 1 rfl, (R.Bx.later hU3 HX2.out).cell 1 rfl, cell_later hU2 (hca _ _ (hat 0 (by omega))), cell_later hU2 (hca _ _ (hat 1 (by omega))), cell_later hU2 (hca _ _ (hat 2 (by omega))), cell_later hU2 (hca _ _ (hat 3 (by omega))), cell_later hU2 (hca _ _ (hat 4 (by omega))), cell_later hU2 (hcb _ _ (hat 0 (by omega))), cell_later hU2 (hcb _ _ (hat 1 (by omega))), cell_later hU2 (hcb _ _ (hat 2 (by omega))), cell_later hU2 (hcb _ _ (hat 3 (by omega))), cell_later hU2 (hcb _ _ (hat 4 (by omega)))⟩
          clear hca hcb hv hat
          go_upto_region 11 with fail
          clear x0 y0
          go_region_held3 (fun U => U.cell? ⟨w.heap.size, 1, none⟩ = some (.slice (some ⟨ga, 0, none⟩) n2 c2) ∧ U.cell? ⟨w.heap.size + 1, 1, none⟩ = some (.slice (some ⟨gb, 0, none⟩) n2 d2) ∧ U.cell? ⟨ga, i * 5, none⟩ = some (.int .i64 tb) ∧ U.cell? ⟨ga, i * 5 + 1, none⟩ = some (.int .u64 (th : Int)) ∧ U.cell? ⟨ga, i * 5 + 2, none⟩ = some (.int .u64 (tl : Int)) ∧ U.cell? ⟨ga, i * 5 + 3, none⟩ = some (.int .i64 tr) ∧ U.cell? ⟨ga, i * 5 + 4, none⟩ = some (.int .i64 tq) ∧ U.cell? ⟨gb, i * 5, none⟩ = some (.int .i64 tb) ∧ U.cell? ⟨gb, i * 5 + 1, none⟩ = some (.int .u64 (th : Int)) ∧ U.cell? ⟨gb, i * 5 + 2, none⟩ = some (.int .u64 (tl : Int)) ∧ U.cell? ⟨gb, i * 5 + 3, none⟩ = some (.int .i64 tr) ∧ U.cell? ⟨gb, i * 5 + 4, none⟩ = some (.int .i64 tq)) (first | exact HS.out _ (Below.refl _ _).drew | exact HS.out _ (Below.refl _ _)) (first | fail)
          all_goals (try go_wp2)
          all_goals exact ⟨⟨i + 1, rfl, by omega, HB1r.out.drew⟩, by simp [S.ivN]; omega⟩
        · obtain rfl : n2 = i := by have := HIn.out; omega
          have hd : decide ((n2 : Int) < (n2 : Int)) = false := by simp
          have HBr2 := hid HB1r.out
          go_upto_region 14 with fail
          clear x0 y0
          go_loopw [7] (fun v U => ∃ i : Nat, v = .int .i64 (i : Int) ∧ i ≤ n3 ∧ Below W.heap.size W U) (fun v _ => n3 - S.ivN v)
          case atStart => exact ⟨0, rfl, Nat.zero_le _, HBr2.out⟩
          case round =>
            obtain ⟨i, rfl, hi, hB⟩ := hrel
            have HIn := hid hi
            have HB2r := hid hB
            clear hi hB
            have x0 := (R.Bx.later HB2r.out HX1.out).cell 2 rfl
            have y0 := (R.Bx.later HB2r.out HX2.out).cell 2 rfl
            by_cases hlt : i < n3
            · have hd : decide ((i : Int) < (n3 : Int)) = true := decide_eq_true (by omega)
              obtain ⟨v, hv⟩ : ∃ v, p.P[i]? = some v := ⟨_, List.getElem?_eq_getElem (by have := HN3.out; omega)⟩
              obtain ⟨x, hx, hxm, ex1, ex2, ex3⟩ := key_at HH.out.pk hv
              obtain ⟨y, hy, hym, ey1, ey2, ey3⟩ := key_at HK.out.pk hv
              obtain ⟨ga, rfl, hca⟩ := HH.out.q (by rw [evs_len, key_len HH.out.pk]; have := HN3.out; omega)
              obtain ⟨gb, rfl, hcb⟩ := HK.out.q (by rw [evs_len, key_len HK.out.pk]; have := HN3.out; omega)
              have hfx := HH.out.pe x hxm
              have hfy := HK.out.pe y hym
              have hx0 := hca _ _ (evs_at _ i x hx 0 (by omega))
              have hx1 := hca _ _ (evs_at _ i x hx 1 (by omega))
              have hy0 := hcb _ _ (evs_at _ i y hy 0 (by omega))
              have hy1 := hcb _ _ (evs_at _ i y hy 1 (by omega))
              have hln := HSm.out.pe v (List.mem_of_getElem? hv)
              obtain ⟨xi, xv, xn, xa, xc⟩ := x
              obtain ⟨yi, yv, yn, ya, yc⟩ := y
              simp only [plK, Ev.c, List.getElem?_cons_zero, List.getElem?_cons_succ] at ex1 ex2 ex3 ey1 ey2 ey3 hx0 hx1 hy0 hy1 hfx hfy
              subst ex1 ex2 ex3 ey1 ey2 ey3
              obtain ⟨z, hz⟩ : ∃ z, z = v.1 := ⟨_, rfl⟩
              obtain ⟨zl, hzl⟩ : ∃ zl, zl = v.2.length := ⟨_, rfl⟩
              rw [← hz] at hx0 hy0
              rw [← hzl] at hx1 hy1
              have HSb : Hid (∀ U, Below w.heap.size w U → Calls Try.prog 26 #[.slice xa zl xc, .slice ya zl yc] U fun e w' => e = .returned (.bool true) ∧ Below U.heap.size U w') := fun U hU => by rw [hzl]; exact sameCaps_eq v.2 (hfx.later hU) (hfy.later hU) (by omega)
              have HS : Hid (∀ U, Below wr.heap.size wr U → U.cell? ⟨w.heap.size, 2, none⟩ = some (.slice (some ⟨ga, 0, none⟩) n3 c3) ∧ U.cell? ⟨w.heap.size + 1, 2, none⟩ = some (.slice (some ⟨gb, 0, none⟩) n3 d3) ∧ U.cell? ⟨ga, i * 2, none⟩ = some (.int .i64 z) ∧ U.cell? ⟨ga, i * 2 + 1, none⟩ = some (.slice xa zl xc) ∧ U.cell? ⟨gb, i * 2, none⟩ = some (.int .i64 z) ∧ U.cell? ⟨gb, i * 2 + 1, none⟩ = some (.slice ya zl yc)) := fun U hU => by
                have hU3 := below_call HB2r.out hU
                have hU2 := below_call HB.out hU3
                exact ⟨(R.Bx.later hU3 HX1.out).cell 2 rfl, (R.Bx.later hU3 HX2.out).cell 2 rfl, cell_later hU2 hx0, cell_later hU2 hx1, cell_later hU2 hy0, cell_later hU2 hy1⟩
              have HBw : Hid (Below w.heap.size w wr) := below_call HB.out HB2r.out
              clear hca hcb hx hy hv hxm hym hfx hfy hx0 hx1 hy0 hy1 hln hz hzl
              go_upto_region 16 with fail
              clear x0 y0
              go_region_held3 (fun U => U.cell? ⟨w.heap.size, 2, none⟩ = some (.slice (some ⟨ga, 0, none⟩) n3 c3) ∧ U.cell? ⟨w.heap.size + 1, 2, none⟩ = some (.slice (some ⟨gb, 0, none⟩) n3 d3) ∧ U.cell? ⟨ga, i * 2, none⟩ = some (.int .i64 z) ∧ U.cell? ⟨ga, i * 2 + 1, none⟩ = some (.slice xa zl xc) ∧ U.cell? ⟨gb, i * 2, none⟩ = some (.int .i64 z) ∧ U.cell? ⟨gb, i * 2 + 1, none⟩ = some (.slice ya zl yc)) (first | exact HS.out _ (Below.refl _ _).drew | exact HS.out _ HU6.out) (first | (go_at_call 26; refine (HSb.out _ HBw.out.drew).mono ?_; rintro e u6 ⟨rfl, hb6⟩; have HU6 : Hid (Below wr.heap.size wr u6) := below_call (Below.refl _ _).drew hb6; clear hb6))
              all_goals (try go_wp2)
              all_goals exact ⟨⟨i + 1, rfl, by omega, below_call HB2r.out HU6.out⟩, by simp [S.ivN]; omega⟩
            · obtain rfl : n3 = i := by have := HIn.out; omega
              have hd : decide ((n3 : Int) < (n3 : Int)) = false := by simp
              have HBr3 := hid HB2r.out
              go_wp2
              go_ret
              exact ⟨ret_bool rfl, below_call HB.out HBr3.out⟩
end
end Go.Proofs.Ytffmodpgddecnaa.V
