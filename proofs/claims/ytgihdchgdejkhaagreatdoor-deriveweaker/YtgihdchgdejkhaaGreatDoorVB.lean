import Derived.Test.YtgihdchgdejkhaaGreatDoorVA
import Derived.Maps.OwnIn
import Derived.Sort.CutIn
namespace Go.Proofs.YtgihdchgdejkhaaGreatDoor
open Go.RowKit Go.Shelf H
set_option linter.unusedVariables false
attribute [local go_sem] Oper.semAt_some

def vals {l : Fo} {n : Int} (pre : List (Mem l n)) : List Int := pre.map Subtype.val
theorem vals_snoc {l : Fo} {n : Int} (pre : List (Mem l n)) (x : Mem l n) : vals (pre ++ [x]) = vals pre ++ [x.1] := by simp [vals]
theorem vals_len {l : Fo} {n : Int} (pre : List (Mem l n)) : (vals pre).length = pre.length := by simp [vals]
theorem vals_mem {l : Fo} {n : Int} {pre : List (Mem l n)} {x : Int} (h : x ∈ vals pre) : x ∈ G true l n := by
  unfold vals at h
  obtain ⟨y, _, rfl⟩ := List.mem_map.1 h
  exact y.2
theorem vals_all {l : Fo} {n : Int} : vals (l := l) (n := n) (tells true l n).attach = G true l n := by
  unfold vals
  rw [List.attach_map_subtype_val]; rfl
/-- What stands before each round of Drop. -/
structure DropI (w : World) (A : Ad) (kn mo : Nat) (X : List Tk) (l : Fo) (B0 B : Nat) (n : Int) (pre : List (Mem l n)) (W : World) : Prop where
  box : BoxK B 36 3 W pre.length (caps (runC X (vals pre)))
  c : Lies W ⟨B0, 0, none⟩ (.pointer (some ⟨A.g, 0, none⟩))
  cm : Cm W A kn mo (runT (pairs X l) X (vals pre)) (zer X (vals pre)) l
  but : But A.Wr w W
def DropFp (A : Ad) (B : Nat) (W : World) (k : Nat) : Prop := A.Wr k ∨ BoxFp B W k
theorem dropI_from {w : World} {A : Ad} {kn mo : Nat} {X : List Tk} {l : Fo} {B0 B : Nat} {n : Int} {C : Nat} (hA : ∀ k, A.All k → k < C) (hw : w.heap.size ≤ C) (h0 : B0 < C) : OwnFrom C (DropI w A kn mo X l B0 B n) := fun s W W' row hs hg hr =>
  ⟨hs.box.grown hg hr, hs.c.but (but_grown hg) (fun e => by have := (hr _ e).1; simp at this; omega), hs.cm.but (but_grown hg) (fun k hk e => by have := (hr _ e).1; have := hA k hk; omega), hs.but.comp (but_grown hg) (fun i e => .inr (by have := (hr _ e).1; omega))⟩
theorem opIn_append_known {F : Fence} {n : Nat} {P : Program} {w : World} {o : Oper} {a : Act} {K : Act → World → Prop} {Q : Exit → Act → World → Prop} (s x : Operand) (t : TypeId)
    (ho : o.op = .call { callee := .builtin .append, args := #[s, x], argTypes := #[t, t] }) (vs vx : Value) (hs : a.eval s = vs) (hx : a.eval x = vx) (v' : Value) (w' : World)
    (hr : (Builtin.append_ #[t, t] o.type #[vs, vx]).run P w = .ok v' w') (h : K (a.put o.dst v') w') : Oper.wpIn F n P o a w K Q := by
  unfold Oper.wpIn
  refine ⟨by simp [Oper.about, ho, resolve, Target.leads, Sem.run_pure], ?_⟩
  rw [Oper.semAt_plain F _ _ (by rw [ho]; intro c hc; cases hc)]
  simp [execOp, ho, resolve, invoke, builtin, hs, hx, hr, Result.andThen]
  exact h
set_option maxRecDepth 100000 in
set_option maxHeartbeats 40000000 in
theorem drop_ok {w : World} {A : Ad} {kn mo : Nat} {X : List Tk} {l : Fo} (h : Cat w A kn mo X l) (n : Int) (hn : n ∈ nums l) :
    Calls Tryz.prog 38 #[.pointer (some ⟨A.g, 0, none⟩), .int .i64 n] w fun e w' => ∃ a c, e = .returned (.tuple #[.slice a (G true l n).length c, .int .i64 0]) ∧ Ow w' w.heap.size 36 3 a (G true l n).length c (caps ((G true l n).map (fun k => (tk X k).1))) ∧ Cat w' A kn mo (zer X (G true l n)) (cuts l (G true l n)) ∧ But A.Wr w w' := by
  have hmo := h.cm.small
  have hGl := G_len h.inv.ok true n
  have HH := hid h
  have hAll := hid h.lt
  obtain ⟨w0, hw0⟩ : ∃ w0, w0 = w.alloc (Obj.cells #[.pointer (some ⟨A.g, 0, none⟩)] 41) := ⟨_, rfl⟩
  have hB0 : Below w.heap.size w w0 := by rw [hw0]; exact below1 _ _
  have hL0 : Lies w0 ⟨w.heap.size, 0, none⟩ (.pointer (some ⟨A.g, 0, none⟩)) := by rw [hw0]; exact lies_new _ _ _
  have z0 := hL0.1
  have hlt0 : w.heap.size < w0.heap.size := by rw [hw0]; simp
  obtain ⟨w2, hw2⟩ : ∃ w2, w2 = w0.alloc (Obj.cells #[.slice none 0 0] 114) := ⟨_, rfl⟩
  have hB2 : Below w0.heap.size w0 w2 := by rw [hw2]; exact below1 _ _
  have hL2 : Lies w2 ⟨w0.heap.size, 0, none⟩ (.slice none 0 0) := by rw [hw2]; exact lies_new _ _ _
  have z2 := (hL0.later hB2).1
  have hh := hid (chas_any (h.cm.later hB0) n)
  rw [decide_eq_true hn] at hh
  have hmk := hid (down_any (h.cm.later (below_call hB0 hB2)) n)
  clear h
  refine (callsIn_wide (n := 3)).1 ?_
  refine callsIn_of_wp_marks Tryz.func38 rfl trivial ?_ rfl
  simp only [Tryz.ntmps38, List.size_toArray, List.length_cons, List.length_nil, Nat.reduceAdd, Nat.reduceSub, Array.replicate_succ, Array.replicate_zero, List.push_toArray, List.append_toArray, List.nil_append, List.cons_append]
  gi_upto_region 1 with fail
  rw [← hw0]
  clear hw0
  gi_upto_region 4 with (first | (refine ⟨trivial, ?_⟩; gi_at_call 62; refine (callsIn_wide.2 hh.out).mono ?_; rintro e w9 ⟨rfl, hw9⟩; obtain rfl := hw9.symm; clear hw9))
  rw [← hw2]
  clear hw2
  gi_wp2_with (refine ⟨trivial, ?_⟩; gi_at_call 30; refine (callsIn_wide.2 hmk.out).mono ?_; rintro e w1 ⟨b0, rfl, hS, hB⟩; have HS := hid hS; have HB := hid hB; clear hS hB)
  have l1 : w0.heap.size < w1.heap.size := Nat.lt_of_lt_of_le (World.block_lt_of_cell? _ _ hL2.1) HB.out.size
  have hBw1 := below_call (below_call hB0 hB2) HB.out
  have hM1 := HH.out.cm.later hBw1
  have hL01 := (hL0.later hB2).later HB.out
  have hL21 := hL2.later HB.out
  have hwr : Hid (∀ k, A.Wr k → k < w.heap.size) := fun k hk => hAll.out k (.inr (.inr hk))
  have hmx : Tryz.prog.follows .mixedOrders = true := by kernel_rfl
  have hrng : Hid (∀ x ∈ G true l n, x ∈ nums l ∧ 0 ≤ x ∧ x < (mo : Int)) := fun x hx => by
    have h1 := G_nums HH.out.inv.ok hx
    have := HH.out.inv.ok.range x h1
    exact ⟨h1, this.1, this.2⟩
  refine range_mem 7 (by omega) rfl HS.out hM1.kin (DropFp A w0.heap.size) (fun W hW k hk => ?_) (fun W L o o' hL hLo ho k hk => hk.imp id (fun hk => boxFp_put l1 W L o o' hL hLo ho k hk))
    (DropI w A kn mo X l w.heap.size w0.heap.size n) (dropI_from (fun k hk => by have := hAll.out k hk; have := hBw1.size; omega) hBw1.size (by omega)) ⟨⟨none, 0, hL21, Ow.nil _ _ _ _⟩, hL01, hM1, But.of hBw1⟩ ?assign ?body ?done
  · rcases hk with hk | hk
    · have := hwr.out k hk; have := hBw1.size; omega
    · exact boxFp_first hL21.1 W hW k hk
  case assign =>
    intro L x W K hK
    gi_wp2
    exact hK
  case body =>
    rintro L pre x W hI hlt
    simp only [actX, List.setIfInBounds_toArray, List.set]
    obtain ⟨x, hx⟩ := x
    obtain ⟨hxl, hx0, hxm⟩ := hrng.out x hx
    obtain ⟨k, rfl⟩ : ∃ k : Nat, x = (k : Int) := ⟨x.toNat, by omega⟩
    have hkm : k < mo := by omega
    obtain ⟨a, c, hl, hO⟩ := hI.box
    have hpl : pre.length ≤ 2048 := by unfold tells at hlt; omega
    have hwide : (tk (zer X (vals pre)) (k : Int)).1.2.1 < B64 ∧ (tk (zer X (vals pre)) (k : Int)).1.2.2 < B64 := by
      rcases zer_or (vals pre) X (k : Int) hx0 (fun y hy => (hrng.out y (vals_mem hy)).2.1) with e | e
      · rw [e]; exact HH.out.inv.wide _ hxl
      · rw [e]; decide
    have hfg := hid (forget_tot (hI.cm.later (Below.refl _ _).drew) k hkm hwide)
    have HPO : Hid (∀ W2, Cm W2 A kn mo (dropT (runT (pairs X l) X (vals pre)) (tk (zer X (vals pre)) (k : Int)).1) ((zer X (vals pre)).set k tz) l → But A.Wr W.drew W2 →
        ∃ a' c' w3, (Builtin.append_ #[114, 114] 114 #[.slice a pre.length c, .slice (some ⟨W2.heap.size, 0, none⟩) 1 1]).run Tryz.prog (W2.alloc (Obj.cells #[.int .i64 (tk (zer X (vals pre)) (k : Int)).1.1, .int .u64 ((tk (zer X (vals pre)) (k : Int)).1.2.1 : Int), .int .u64 ((tk (zer X (vals pre)) (k : Int)).1.2.2 : Int)] 36)) = .ok (.slice a' (pre.length + 1) c') w3 ∧ Lies W2 ⟨w0.heap.size, 0, none⟩ (.slice a pre.length c) ∧ Lies w3 ⟨w0.heap.size, 0, none⟩ (.slice a pre.length c) ∧
          (KeepsFrom w1.heap.size W (w3.setCell ⟨w0.heap.size, 0, none⟩ (.slice a' (pre.length + 1) c')) ∧ Kq (DropFp A w0.heap.size) W (w3.setCell ⟨w0.heap.size, 0, none⟩ (.slice a' (pre.length + 1) c')) ∧ DropI w A kn mo X l w.heap.size w0.heap.size n (pre ++ [⟨(k : Int), hx⟩]) (w3.setCell ⟨w0.heap.size, 0, none⟩ (.slice a' (pre.length + 1) c')))) := by
      intro W2 hM2 hB2
      have hBW : But A.Wr W W2 := (But.of (Below.refl _ _).drew).trans hB2
      have hl2 := hl.but hBW (fun e => by have := hwr.out _ e; simp at this; omega)
      have hO2 := hO.but hBW (fun j hj e => by have := hwr.out _ e; have := (hO.blk j hj).1; omega)
      obtain ⟨a', c', w3, hrun, hl3, hr⟩ := box_append 114 36 _ 3 24 Tryz.underlying114 info36 rfl (by omega) (by omega) (by omega) hl2 hO2 (encC (tk (zer X (vals pre)) (k : Int)).1) rfl (encC_one _) hpl
      obtain ⟨hc4, hbx4, hb4, hf4, hg4⟩ := hr _ rfl
      have hfpW : ∀ j, BoxFp w0.heap.size W2 j → BoxFp w0.heap.size W j := fun j hj => by
        rcases hj with rfl | ⟨a2, n2, c2, h2, hj⟩
        · exact .inl rfl
        · rw [hl2.1] at h2
          cases h2
          exact .inr ⟨a, _, c, hl.1, hj⟩
      have hbw4 : But (DropFp A w0.heap.size W) W (w3.setCell ⟨w0.heap.size, 0, none⟩ (.slice a' (pre.length + 1) c')) :=
        (hBW.mono (fun j hj => .inl hj)).trans (hb4.mono (fun j hj => .inr (hfpW j hj)))
      refine ⟨a', c', w3, hrun, hl2, hl3, keeps_but hbw4 (fun j o hj ho hge hs => ?_), kq_but hbw4 (fun j hj => hj) (fun j hj => ?_), ⟨?_, ?_, ?_, ?_⟩⟩
      · rcases hs with hs | hs
        · have := hwr.out j hs; have := hBw1.size; omega
        · have : ∃ cs t z, W.heap[j]? = some (.cells cs t z) := by
            rcases hs with rfl | ⟨a2, n2, c2, h2, hj2⟩
            · have h3 := hl.1
              unfold World.cell? at h3
              rw [hj] at h3
              cases o with
              | cells cs t z => exact ⟨cs, t, z, hj⟩
              | _ => simp at h3
            · rw [hl.1] at h2
              cases h2
              exact hO.cells hj2
          obtain ⟨cs, t, z, hh⟩ := this
          rw [hj] at hh
          cases hh
          cases ho
      · rcases hj with hj | hj
        · exact .inl (.inl hj)
        · rcases hf4 j hj with h5 | h5
          · exact .inl (.inr (hfpW j h5))
          · exact .inr (Nat.le_trans hBW.size h5)
      · rw [vals_snoc, runC_snoc, caps_snoc, List.length_append]
        exact hbx4
      · exact (hI.c.but hBW (fun e => by have := hwr.out _ e; simp at this)).but hb4 (fun e => by have := (hg4 _ e).1; simp at this; omega)
      · have e1 : ((⟨(k : Int), hx⟩ : Mem l n)).1.toNat = k := by simp
        rw [vals_snoc, runT_snoc, zer_snoc, e1]
        exact hM2.but hb4 (fun j hj e => by have := (hg4 _ e).1; have := hAll.out j hj; omega)
      · exact (hI.but.trans hBW).comp hb4 (fun j e => .inr (by have := (hg4 _ e).1; omega))
    have y6 := hl.1
    have y2 := hI.c.1
    generalize tk (zer X (vals pre)) (k : Int) = tt at *
    obtain ⟨⟨o, hi, lo⟩, r⟩ := tt
    clear hI hl hO hwide hxl
    gi_wp2
    refine wpIn_region_any hmx ?_
    change wpAnyIn _ _ _ _ _ _ _ _ _ (World.drew _)
    refine wpAnyIn_ready (rs := [0, 1, 4]) (by kernel_rfl) (by simp) ?_
    refine AllReadyIn.cons rfl (fun K hK => ?_) (AllReadyIn.cons rfl (fun K hK => ?_) (AllReadyIn.cons rfl (fun K hK => ?_) AllReadyIn.nil))
    · go_simp
      refine hK _ _ ?_
      clear hK K
      refine wpAnyIn_ready (rs := [1, 4]) (by kernel_rfl) (by simp) ?_
      refine AllReadyIn.cons rfl (fun K hK => ?_) (AllReadyIn.cons rfl (fun K hK => ?_) AllReadyIn.nil)
      · go_simp
        refine hK _ _ ?_
        clear hK K
        refine wpAnyIn_ready (rs := [2, 4]) (by kernel_rfl) (by simp) ?_
        refine AllReadyIn.cons rfl (fun K hK => ?_) (AllReadyIn.cons rfl (fun K hK => ?_) AllReadyIn.nil)
        · go_simp
          refine hK _ _ ?_
          clear hK K
          refine wpAnyIn_ready (rs := [3, 4]) (by kernel_rfl) (by simp) ?_
          refine AllReadyIn.cons rfl (fun K hK => ?_) (AllReadyIn.cons rfl (fun K hK => ?_) AllReadyIn.nil)
          · go_simp
            refine hK _ _ ?_
            clear hK K
            refine wpAnyIn_ready (rs := [4]) (by kernel_rfl) (by simp) ?_
            refine AllReadyIn.cons rfl (fun K hK => ?_) AllReadyIn.nil
            go_simp
            refine hK _ _ ?_
            clear hK K
            refine wpAnyIn_ready (rs := [5]) (by kernel_rfl) (by simp) ?_
            refine AllReadyIn.cons rfl (fun K hK => ?_) AllReadyIn.nil
            go_simp
            gi_wp2_with (refine ⟨trivial, ?_⟩; gi_at_call 75; refine (CallsIn.inRound L (callsIn_wide.2 hfg.out)).mono ?_; rintro e w5 ⟨rfl, hM5, hB5⟩; obtain ⟨a', c', w3, hrun, hq2, hq3, hq⟩ := HPO.out w5 hM5 hB5; have HRUN := hid hrun; have HQ := hid hq; have yq := hq2.1; have yqa := (hq2.alloc (Obj.cells #[.int .i64 o, .int .u64 (hi : Int), .int .u64 (lo : Int)] 36)).1; have yq3 := hq3.1; have zq3 := hq3.2; clear hM5 hB5 hrun hq hq2 hq3)
            refine wpAnyIn_ready (rs := [6]) (by kernel_rfl) (by simp) ?_
            refine AllReadyIn.cons rfl (fun K hK => ?_) AllReadyIn.nil
            go_simp
            refine hK _ _ ?_
            clear hK K
            refine wpAnyIn_ready (rs := [7]) (by kernel_rfl) (by simp) ?_
            refine AllReadyIn.cons rfl (fun K hK => ?_) AllReadyIn.nil
            rw [if_pos (by kernel_rfl)]
            refine opIn_append_known _ _ 114 rfl _ _ rfl rfl _ w3 HRUN.out ?_
            refine hK _ _ ?_
            clear hK K
            simp only [Act.put, List.setIfInBounds_toArray]
            refine wpAnyIn_ready (rs := [8]) (by kernel_rfl) (by simp) ?_
            refine AllReadyIn.cons rfl (fun K hK => ?_) AllReadyIn.nil
            go_simp
            refine hK _ _ ?_
            clear hK K
            refine wpAnyIn_done (by kernel_rfl) ?_ _
            exact HQ.out
          · go_simp
            refine hK _ _ ?_
            clear hK K
            refine wpAnyIn_ready (rs := [3]) (by kernel_rfl) (by simp) ?_
            refine AllReadyIn.cons rfl (fun K hK => ?_) AllReadyIn.nil
            go_simp
            refine hK _ _ ?_
            clear hK K
            refine wpAnyIn_ready (rs := [5]) (by kernel_rfl) (by simp) ?_
            refine AllReadyIn.cons rfl (fun K hK => ?_) AllReadyIn.nil
            go_simp
            gi_wp2_with (refine ⟨trivial, ?_⟩; gi_at_call 75; refine (CallsIn.inRound L (callsIn_wide.2 hfg.out)).mono ?_; rintro e w5 ⟨rfl, hM5, hB5⟩; obtain ⟨a', c', w3, hrun, hq2, hq3, hq⟩ := HPO.out w5 hM5 hB5; have HRUN := hid hrun; have HQ := hid hq; have yq := hq2.1; have yqa := (hq2.alloc (Obj.cells #[.int .i64 o, .int .u64 (hi : Int), .int .u64 (lo : Int)] 36)).1; have yq3 := hq3.1; have zq3 := hq3.2; clear hM5 hB5 hrun hq hq2 hq3)
            refine wpAnyIn_ready (rs := [6]) (by kernel_rfl) (by simp) ?_
            refine AllReadyIn.cons rfl (fun K hK => ?_) AllReadyIn.nil
            go_simp
            refine hK _ _ ?_
            clear hK K
            refine wpAnyIn_ready (rs := [7]) (by kernel_rfl) (by simp) ?_
            refine AllReadyIn.cons rfl (fun K hK => ?_) AllReadyIn.nil
            rw [if_pos (by kernel_rfl)]
            refine opIn_append_known _ _ 114 rfl _ _ rfl rfl _ w3 HRUN.out ?_
            refine hK _ _ ?_
            clear hK K
            simp only [Act.put, List.setIfInBounds_toArray]
            refine wpAnyIn_ready (rs := [8]) (by kernel_rfl) (by simp) ?_
            refine AllReadyIn.cons rfl (fun K hK => ?_) AllReadyIn.nil
            go_simp
            refine hK _ _ ?_
            clear hK K
            refine wpAnyIn_done (by kernel_rfl) ?_ _
            exact HQ.out
        · go_simp
          refine hK _ _ ?_
          clear hK K
          refine wpAnyIn_ready (rs := [2]) (by kernel_rfl) (by simp) ?_
          refine AllReadyIn.cons rfl (fun K hK => ?_) AllReadyIn.nil
          go_simp
          refine hK _ _ ?_
          clear hK K
          refine wpAnyIn_ready (rs := [3]) (by kernel_rfl) (by simp) ?_
          refine AllReadyIn.cons rfl (fun K hK => ?_) AllReadyIn.nil
          go_simp
          refine hK _ _ ?_
          clear hK K
          refine wpAnyIn_ready (rs := [5]) (by kernel_rfl) (by simp) ?_
          refine AllReadyIn.cons rfl (fun K hK => ?_) AllReadyIn.nil
          go_simp
          gi_wp2_with (refine ⟨trivial, ?_⟩; gi_at_call 75; refine (CallsIn.inRound L (callsIn_wide.2 hfg.out)).mono ?_; rintro e w5 ⟨rfl, hM5, hB5⟩; obtain ⟨a', c', w3, hrun, hq2, hq3, hq⟩ := HPO.out w5 hM5 hB5; have HRUN := hid hrun; have HQ := hid hq; have yq := hq2.1; have yqa := (hq2.alloc (Obj.cells #[.int .i64 o, .int .u64 (hi : Int), .int .u64 (lo : Int)] 36)).1; have yq3 := hq3.1; have zq3 := hq3.2; clear hM5 hB5 hrun hq hq2 hq3)
          refine wpAnyIn_ready (rs := [6]) (by kernel_rfl) (by simp) ?_
          refine AllReadyIn.cons rfl (fun K hK => ?_) AllReadyIn.nil
          go_simp
          refine hK _ _ ?_
          clear hK K
          refine wpAnyIn_ready (rs := [7]) (by kernel_rfl) (by simp) ?_
          refine AllReadyIn.cons rfl (fun K hK => ?_) AllReadyIn.nil
          rw [if_pos (by kernel_rfl)]
          refine opIn_append_known _ _ 114 rfl _ _ rfl rfl _ w3 HRUN.out ?_
          refine hK _ _ ?_
          clear hK K
          simp only [Act.put, List.setIfInBounds_toArray]
          refine wpAnyIn_ready (rs := [8]) (by kernel_rfl) (by simp) ?_
          refine AllReadyIn.cons rfl (fun K hK => ?_) AllReadyIn.nil
          go_simp
          refine hK _ _ ?_
          clear hK K
          refine wpAnyIn_done (by kernel_rfl) ?_ _
          exact HQ.out
      · go_simp
        refine hK _ _ ?_
        clear hK K
        refine wpAnyIn_ready (rs := [1]) (by kernel_rfl) (by simp) ?_
        refine AllReadyIn.cons rfl (fun K hK => ?_) AllReadyIn.nil
        go_simp
        refine hK _ _ ?_
        clear hK K
        refine wpAnyIn_ready (rs := [2]) (by kernel_rfl) (by simp) ?_
        refine AllReadyIn.cons rfl (fun K hK => ?_) AllReadyIn.nil
        go_simp
        refine hK _ _ ?_
        clear hK K
        refine wpAnyIn_ready (rs := [3]) (by kernel_rfl) (by simp) ?_
        refine AllReadyIn.cons rfl (fun K hK => ?_) AllReadyIn.nil
        go_simp
        refine hK _ _ ?_
        clear hK K
        refine wpAnyIn_ready (rs := [5]) (by kernel_rfl) (by simp) ?_
        refine AllReadyIn.cons rfl (fun K hK => ?_) AllReadyIn.nil
        go_simp
        gi_wp2_with (refine ⟨trivial, ?_⟩; gi_at_call 75; refine (CallsIn.inRound L (callsIn_wide.2 hfg.out)).mono ?_; rintro e w5 ⟨rfl, hM5, hB5⟩; obtain ⟨a', c', w3, hrun, hq2, hq3, hq⟩ := HPO.out w5 hM5 hB5; have HRUN := hid hrun; have HQ := hid hq; have yq := hq2.1; have yqa := (hq2.alloc (Obj.cells #[.int .i64 o, .int .u64 (hi : Int), .int .u64 (lo : Int)] 36)).1; have yq3 := hq3.1; have zq3 := hq3.2; clear hM5 hB5 hrun hq hq2 hq3)
        refine wpAnyIn_ready (rs := [6]) (by kernel_rfl) (by simp) ?_
        refine AllReadyIn.cons rfl (fun K hK => ?_) AllReadyIn.nil
        go_simp
        refine hK _ _ ?_
        clear hK K
        refine wpAnyIn_ready (rs := [7]) (by kernel_rfl) (by simp) ?_
        refine AllReadyIn.cons rfl (fun K hK => ?_) AllReadyIn.nil
        rw [if_pos (by kernel_rfl)]
        refine opIn_append_known _ _ 114 rfl _ _ rfl rfl _ w3 HRUN.out ?_
        refine hK _ _ ?_
        clear hK K
        simp only [Act.put, List.setIfInBounds_toArray]
        refine wpAnyIn_ready (rs := [8]) (by kernel_rfl) (by simp) ?_
        refine AllReadyIn.cons rfl (fun K hK => ?_) AllReadyIn.nil
        go_simp
        refine hK _ _ ?_
        clear hK K
        refine wpAnyIn_done (by kernel_rfl) ?_ _
        exact HQ.out
    · go_simp
      refine hK _ _ ?_
      clear hK K
      refine wpAnyIn_ready (rs := [0, 2, 4]) (by kernel_rfl) (by simp) ?_
      refine AllReadyIn.cons rfl (fun K hK => ?_) (AllReadyIn.cons rfl (fun K hK => ?_) (AllReadyIn.cons rfl (fun K hK => ?_) AllReadyIn.nil))
      · go_simp
        refine hK _ _ ?_
        clear hK K
        refine wpAnyIn_ready (rs := [2, 4]) (by kernel_rfl) (by simp) ?_
        refine AllReadyIn.cons rfl (fun K hK => ?_) (AllReadyIn.cons rfl (fun K hK => ?_) AllReadyIn.nil)
        · go_simp
          refine hK _ _ ?_
          clear hK K
          refine wpAnyIn_ready (rs := [3, 4]) (by kernel_rfl) (by simp) ?_
          refine AllReadyIn.cons rfl (fun K hK => ?_) (AllReadyIn.cons rfl (fun K hK => ?_) AllReadyIn.nil)
          · go_simp
            refine hK _ _ ?_
            clear hK K
            refine wpAnyIn_ready (rs := [4]) (by kernel_rfl) (by simp) ?_
            refine AllReadyIn.cons rfl (fun K hK => ?_) AllReadyIn.nil
            go_simp
            refine hK _ _ ?_
            clear hK K
            refine wpAnyIn_ready (rs := [5]) (by kernel_rfl) (by simp) ?_
            refine AllReadyIn.cons rfl (fun K hK => ?_) AllReadyIn.nil
            go_simp
            gi_wp2_with (refine ⟨trivial, ?_⟩; gi_at_call 75; refine (CallsIn.inRound L (callsIn_wide.2 hfg.out)).mono ?_; rintro e w5 ⟨rfl, hM5, hB5⟩; obtain ⟨a', c', w3, hrun, hq2, hq3, hq⟩ := HPO.out w5 hM5 hB5; have HRUN := hid hrun; have HQ := hid hq; have yq := hq2.1; have yqa := (hq2.alloc (Obj.cells #[.int .i64 o, .int .u64 (hi : Int), .int .u64 (lo : Int)] 36)).1; have yq3 := hq3.1; have zq3 := hq3.2; clear hM5 hB5 hrun hq hq2 hq3)
            refine wpAnyIn_ready (rs := [6]) (by kernel_rfl) (by simp) ?_
            refine AllReadyIn.cons rfl (fun K hK => ?_) AllReadyIn.nil
            go_simp
            refine hK _ _ ?_
            clear hK K
            refine wpAnyIn_ready (rs := [7]) (by kernel_rfl) (by simp) ?_
            refine AllReadyIn.cons rfl (fun K hK => ?_) AllReadyIn.nil
            rw [if_pos (by kernel_rfl)]
            refine opIn_append_known _ _ 114 rfl _ _ rfl rfl _ w3 HRUN.out ?_
            refine hK _ _ ?_
            clear hK K
            simp only [Act.put, List.setIfInBounds_toArray]
            refine wpAnyIn_ready (rs := [8]) (by kernel_rfl) (by simp) ?_
            refine AllReadyIn.cons rfl (fun K hK => ?_) AllReadyIn.nil
            go_simp
            refine hK _ _ ?_
            clear hK K
            refine wpAnyIn_done (by kernel_rfl) ?_ _
            exact HQ.out
          · go_simp
            refine hK _ _ ?_
            clear hK K
            refine wpAnyIn_ready (rs := [3]) (by kernel_rfl) (by simp) ?_
            refine AllReadyIn.cons rfl (fun K hK => ?_) AllReadyIn.nil
            go_simp
            refine hK _ _ ?_
            clear hK K
            refine wpAnyIn_ready (rs := [5]) (by kernel_rfl) (by simp) ?_
            refine AllReadyIn.cons rfl (fun K hK => ?_) AllReadyIn.nil
            go_simp
            gi_wp2_with (refine ⟨trivial, ?_⟩; gi_at_call 75; refine (CallsIn.inRound L (callsIn_wide.2 hfg.out)).mono ?_; rintro e w5 ⟨rfl, hM5, hB5⟩; obtain ⟨a', c', w3, hrun, hq2, hq3, hq⟩ := HPO.out w5 hM5 hB5; have HRUN := hid hrun; have HQ := hid hq; have yq := hq2.1; have yqa := (hq2.alloc (Obj.cells #[.int .i64 o, .int .u64 (hi : Int), .int .u64 (lo : Int)] 36)).1; have yq3 := hq3.1; have zq3 := hq3.2; clear hM5 hB5 hrun hq hq2 hq3)
            refine wpAnyIn_ready (rs := [6]) (by kernel_rfl) (by simp) ?_
            refine AllReadyIn.cons rfl (fun K hK => ?_) AllReadyIn.nil
            go_simp
            refine hK _ _ ?_
            clear hK K
            refine wpAnyIn_ready (rs := [7]) (by kernel_rfl) (by simp) ?_
            refine AllReadyIn.cons rfl (fun K hK => ?_) AllReadyIn.nil
            rw [if_pos (by kernel_rfl)]
            refine opIn_append_known _ _ 114 rfl _ _ rfl rfl _ w3 HRUN.out ?_
            refine hK _ _ ?_
            clear hK K
            simp only [Act.put, List.setIfInBounds_toArray]
            refine wpAnyIn_ready (rs := [8]) (by kernel_rfl) (by simp) ?_
            refine AllReadyIn.cons rfl (fun K hK => ?_) AllReadyIn.nil
            go_simp
            refine hK _ _ ?_
            clear hK K
            refine wpAnyIn_done (by kernel_rfl) ?_ _
            exact HQ.out
        · go_simp
          refine hK _ _ ?_
          clear hK K
          refine wpAnyIn_ready (rs := [2]) (by kernel_rfl) (by simp) ?_
          refine AllReadyIn.cons rfl (fun K hK => ?_) AllReadyIn.nil
          go_simp
          refine hK _ _ ?_
          clear hK K
          refine wpAnyIn_ready (rs := [3]) (by kernel_rfl) (by simp) ?_
          refine AllReadyIn.cons rfl (fun K hK => ?_) AllReadyIn.nil
          go_simp
          refine hK _ _ ?_
          clear hK K
          refine wpAnyIn_ready (rs := [5]) (by kernel_rfl) (by simp) ?_
          refine AllReadyIn.cons rfl (fun K hK => ?_) AllReadyIn.nil
          go_simp
          gi_wp2_with (refine ⟨trivial, ?_⟩; gi_at_call 75; refine (CallsIn.inRound L (callsIn_wide.2 hfg.out)).mono ?_; rintro e w5 ⟨rfl, hM5, hB5⟩; obtain ⟨a', c', w3, hrun, hq2, hq3, hq⟩ := HPO.out w5 hM5 hB5; have HRUN := hid hrun; have HQ := hid hq; have yq := hq2.1; have yqa := (hq2.alloc (Obj.cells #[.int .i64 o, .int .u64 (hi : Int), .int .u64 (lo : Int)] 36)).1; have yq3 := hq3.1; have zq3 := hq3.2; clear hM5 hB5 hrun hq hq2 hq3)
          refine wpAnyIn_ready (rs := [6]) (by kernel_rfl) (by simp) ?_
          refine AllReadyIn.cons rfl (fun K hK => ?_) AllReadyIn.nil
          go_simp
          refine hK _ _ ?_
          clear hK K
          refine wpAnyIn_ready (rs := [7]) (by kernel_rfl) (by simp) ?_
          refine AllReadyIn.cons rfl (fun K hK => ?_) AllReadyIn.nil
          rw [if_pos (by kernel_rfl)]
          refine opIn_append_known _ _ 114 rfl _ _ rfl rfl _ w3 HRUN.out ?_
          refine hK _ _ ?_
          clear hK K
          simp only [Act.put, List.setIfInBounds_toArray]
          refine wpAnyIn_ready (rs := [8]) (by kernel_rfl) (by simp) ?_
          refine AllReadyIn.cons rfl (fun K hK => ?_) AllReadyIn.nil
          go_simp
          refine hK _ _ ?_
          clear hK K
          refine wpAnyIn_done (by kernel_rfl) ?_ _
          exact HQ.out
      · go_simp
        refine hK _ _ ?_
        clear hK K
        refine wpAnyIn_ready (rs := [0, 3, 4]) (by kernel_rfl) (by simp) ?_
        refine AllReadyIn.cons rfl (fun K hK => ?_) (AllReadyIn.cons rfl (fun K hK => ?_) (AllReadyIn.cons rfl (fun K hK => ?_) AllReadyIn.nil))
        · go_simp
          refine hK _ _ ?_
          clear hK K
          refine wpAnyIn_ready (rs := [3, 4]) (by kernel_rfl) (by simp) ?_
          refine AllReadyIn.cons rfl (fun K hK => ?_) (AllReadyIn.cons rfl (fun K hK => ?_) AllReadyIn.nil)
          · go_simp
            refine hK _ _ ?_
            clear hK K
            refine wpAnyIn_ready (rs := [4]) (by kernel_rfl) (by simp) ?_
            refine AllReadyIn.cons rfl (fun K hK => ?_) AllReadyIn.nil
            go_simp
            refine hK _ _ ?_
            clear hK K
            refine wpAnyIn_ready (rs := [5]) (by kernel_rfl) (by simp) ?_
            refine AllReadyIn.cons rfl (fun K hK => ?_) AllReadyIn.nil
            go_simp
            gi_wp2_with (refine ⟨trivial, ?_⟩; gi_at_call 75; refine (CallsIn.inRound L (callsIn_wide.2 hfg.out)).mono ?_; rintro e w5 ⟨rfl, hM5, hB5⟩; obtain ⟨a', c', w3, hrun, hq2, hq3, hq⟩ := HPO.out w5 hM5 hB5; have HRUN := hid hrun; have HQ := hid hq; have yq := hq2.1; have yqa := (hq2.alloc (Obj.cells #[.int .i64 o, .int .u64 (hi : Int), .int .u64 (lo : Int)] 36)).1; have yq3 := hq3.1; have zq3 := hq3.2; clear hM5 hB5 hrun hq hq2 hq3)
            refine wpAnyIn_ready (rs := [6]) (by kernel_rfl) (by simp) ?_
            refine AllReadyIn.cons rfl (fun K hK => ?_) AllReadyIn.nil
            go_simp
            refine hK _ _ ?_
            clear hK K
            refine wpAnyIn_ready (rs := [7]) (by kernel_rfl) (by simp) ?_
            refine AllReadyIn.cons rfl (fun K hK => ?_) AllReadyIn.nil
            rw [if_pos (by kernel_rfl)]
            refine opIn_append_known _ _ 114 rfl _ _ rfl rfl _ w3 HRUN.out ?_
            refine hK _ _ ?_
            clear hK K
            simp only [Act.put, List.setIfInBounds_toArray]
            refine wpAnyIn_ready (rs := [8]) (by kernel_rfl) (by simp) ?_
            refine AllReadyIn.cons rfl (fun K hK => ?_) AllReadyIn.nil
            go_simp
            refine hK _ _ ?_
            clear hK K
            refine wpAnyIn_done (by kernel_rfl) ?_ _
            exact HQ.out
          · go_simp
            refine hK _ _ ?_
            clear hK K
            refine wpAnyIn_ready (rs := [3]) (by kernel_rfl) (by simp) ?_
            refine AllReadyIn.cons rfl (fun K hK => ?_) AllReadyIn.nil
            go_simp
            refine hK _ _ ?_
            clear hK K
            refine wpAnyIn_ready (rs := [5]) (by kernel_rfl) (by simp) ?_
            refine AllReadyIn.cons rfl (fun K hK => ?_) AllReadyIn.nil
            go_simp
            gi_wp2_with (refine ⟨trivial, ?_⟩; gi_at_call 75; refine (CallsIn.inRound L (callsIn_wide.2 hfg.out)).mono ?_; rintro e w5 ⟨rfl, hM5, hB5⟩; obtain ⟨a', c', w3, hrun, hq2, hq3, hq⟩ := HPO.out w5 hM5 hB5; have HRUN := hid hrun; have HQ := hid hq; have yq := hq2.1; have yqa := (hq2.alloc (Obj.cells #[.int .i64 o, .int .u64 (hi : Int), .int .u64 (lo : Int)] 36)).1; have yq3 := hq3.1; have zq3 := hq3.2; clear hM5 hB5 hrun hq hq2 hq3)
            refine wpAnyIn_ready (rs := [6]) (by kernel_rfl) (by simp) ?_
            refine AllReadyIn.cons rfl (fun K hK => ?_) AllReadyIn.nil
            go_simp
            refine hK _ _ ?_
            clear hK K
            refine wpAnyIn_ready (rs := [7]) (by kernel_rfl) (by simp) ?_
            refine AllReadyIn.cons rfl (fun K hK => ?_) AllReadyIn.nil
            rw [if_pos (by kernel_rfl)]
            refine opIn_append_known _ _ 114 rfl _ _ rfl rfl _ w3 HRUN.out ?_
            refine hK _ _ ?_
            clear hK K
            simp only [Act.put, List.setIfInBounds_toArray]
            refine wpAnyIn_ready (rs := [8]) (by kernel_rfl) (by simp) ?_
            refine AllReadyIn.cons rfl (fun K hK => ?_) AllReadyIn.nil
            go_simp
            refine hK _ _ ?_
            clear hK K
            refine wpAnyIn_done (by kernel_rfl) ?_ _
            exact HQ.out
        · go_simp
          refine hK _ _ ?_
          clear hK K
          refine wpAnyIn_ready (rs := [0, 4]) (by kernel_rfl) (by simp) ?_
          refine AllReadyIn.cons rfl (fun K hK => ?_) (AllReadyIn.cons rfl (fun K hK => ?_) AllReadyIn.nil)
          · go_simp
            refine hK _ _ ?_
            clear hK K
            refine wpAnyIn_ready (rs := [4]) (by kernel_rfl) (by simp) ?_
            refine AllReadyIn.cons rfl (fun K hK => ?_) AllReadyIn.nil
            go_simp
            refine hK _ _ ?_
            clear hK K
            refine wpAnyIn_ready (rs := [5]) (by kernel_rfl) (by simp) ?_
            refine AllReadyIn.cons rfl (fun K hK => ?_) AllReadyIn.nil
            go_simp
            gi_wp2_with (refine ⟨trivial, ?_⟩; gi_at_call 75; refine (CallsIn.inRound L (callsIn_wide.2 hfg.out)).mono ?_; rintro e w5 ⟨rfl, hM5, hB5⟩; obtain ⟨a', c', w3, hrun, hq2, hq3, hq⟩ := HPO.out w5 hM5 hB5; have HRUN := hid hrun; have HQ := hid hq; have yq := hq2.1; have yqa := (hq2.alloc (Obj.cells #[.int .i64 o, .int .u64 (hi : Int), .int .u64 (lo : Int)] 36)).1; have yq3 := hq3.1; have zq3 := hq3.2; clear hM5 hB5 hrun hq hq2 hq3)
            refine wpAnyIn_ready (rs := [6]) (by kernel_rfl) (by simp) ?_
            refine AllReadyIn.cons rfl (fun K hK => ?_) AllReadyIn.nil
            go_simp
            refine hK _ _ ?_
            clear hK K
            refine wpAnyIn_ready (rs := [7]) (by kernel_rfl) (by simp) ?_
            refine AllReadyIn.cons rfl (fun K hK => ?_) AllReadyIn.nil
            rw [if_pos (by kernel_rfl)]
            refine opIn_append_known _ _ 114 rfl _ _ rfl rfl _ w3 HRUN.out ?_
            refine hK _ _ ?_
            clear hK K
            simp only [Act.put, List.setIfInBounds_toArray]
            refine wpAnyIn_ready (rs := [8]) (by kernel_rfl) (by simp) ?_
            refine AllReadyIn.cons rfl (fun K hK => ?_) AllReadyIn.nil
            go_simp
            refine hK _ _ ?_
            clear hK K
            refine wpAnyIn_done (by kernel_rfl) ?_ _
            exact HQ.out
          · go_simp
            refine hK _ _ ?_
            clear hK K
            refine wpAnyIn_ready (rs := [0, 5]) (by kernel_rfl) (by simp) ?_
            refine AllReadyIn.cons rfl (fun K hK => ?_) (AllReadyIn.cons rfl (fun K hK => ?_) AllReadyIn.nil)
            · go_simp
              refine hK _ _ ?_
              clear hK K
              refine wpAnyIn_ready (rs := [5]) (by kernel_rfl) (by simp) ?_
              refine AllReadyIn.cons rfl (fun K hK => ?_) AllReadyIn.nil
              go_simp
              gi_wp2_with (refine ⟨trivial, ?_⟩; gi_at_call 75; refine (CallsIn.inRound L (callsIn_wide.2 hfg.out)).mono ?_; rintro e w5 ⟨rfl, hM5, hB5⟩; obtain ⟨a', c', w3, hrun, hq2, hq3, hq⟩ := HPO.out w5 hM5 hB5; have HRUN := hid hrun; have HQ := hid hq; have yq := hq2.1; have yqa := (hq2.alloc (Obj.cells #[.int .i64 o, .int .u64 (hi : Int), .int .u64 (lo : Int)] 36)).1; have yq3 := hq3.1; have zq3 := hq3.2; clear hM5 hB5 hrun hq hq2 hq3)
              refine wpAnyIn_ready (rs := [6]) (by kernel_rfl) (by simp) ?_
              refine AllReadyIn.cons rfl (fun K hK => ?_) AllReadyIn.nil
              go_simp
              refine hK _ _ ?_
              clear hK K
              refine wpAnyIn_ready (rs := [7]) (by kernel_rfl) (by simp) ?_
              refine AllReadyIn.cons rfl (fun K hK => ?_) AllReadyIn.nil
              rw [if_pos (by kernel_rfl)]
              refine opIn_append_known _ _ 114 rfl _ _ rfl rfl _ w3 HRUN.out ?_
              refine hK _ _ ?_
              clear hK K
              simp only [Act.put, List.setIfInBounds_toArray]
              refine wpAnyIn_ready (rs := [8]) (by kernel_rfl) (by simp) ?_
              refine AllReadyIn.cons rfl (fun K hK => ?_) AllReadyIn.nil
              go_simp
              refine hK _ _ ?_
              clear hK K
              refine wpAnyIn_done (by kernel_rfl) ?_ _
              exact HQ.out
            · go_simp
              gi_wp2_with (refine ⟨trivial, ?_⟩; gi_at_call 75; refine (CallsIn.inRound L (callsIn_wide.2 hfg.out)).mono ?_; rintro e w5 ⟨rfl, hM5, hB5⟩; obtain ⟨a', c', w3, hrun, hq2, hq3, hq⟩ := HPO.out w5 hM5 hB5; have HRUN := hid hrun; have HQ := hid hq; have yq := hq2.1; have yqa := (hq2.alloc (Obj.cells #[.int .i64 o, .int .u64 (hi : Int), .int .u64 (lo : Int)] 36)).1; have yq3 := hq3.1; have zq3 := hq3.2; clear hM5 hB5 hrun hq hq2 hq3)
              refine wpAnyIn_ready (rs := [0, 6]) (by kernel_rfl) (by simp) ?_
              refine AllReadyIn.cons rfl (fun K hK => ?_) (AllReadyIn.cons rfl (fun K hK => ?_) AllReadyIn.nil)
              · go_simp
                refine hK _ _ ?_
                clear hK K
                refine wpAnyIn_ready (rs := [6]) (by kernel_rfl) (by simp) ?_
                refine AllReadyIn.cons rfl (fun K hK => ?_) AllReadyIn.nil
                go_simp
                refine hK _ _ ?_
                clear hK K
                refine wpAnyIn_ready (rs := [7]) (by kernel_rfl) (by simp) ?_
                refine AllReadyIn.cons rfl (fun K hK => ?_) AllReadyIn.nil
                rw [if_pos (by kernel_rfl)]
                refine opIn_append_known _ _ 114 rfl _ _ rfl rfl _ w3 HRUN.out ?_
                refine hK _ _ ?_
                clear hK K
                simp only [Act.put, List.setIfInBounds_toArray]
                refine wpAnyIn_ready (rs := [8]) (by kernel_rfl) (by simp) ?_
                refine AllReadyIn.cons rfl (fun K hK => ?_) AllReadyIn.nil
                go_simp
                refine hK _ _ ?_
                clear hK K
                refine wpAnyIn_done (by kernel_rfl) ?_ _
                exact HQ.out
              · go_simp
                refine hK _ _ ?_
                clear hK K
                refine wpAnyIn_ready (rs := [0]) (by kernel_rfl) (by simp) ?_
                refine AllReadyIn.cons rfl (fun K hK => ?_) AllReadyIn.nil
                go_simp
                refine hK _ _ ?_
                clear hK K
                refine wpAnyIn_ready (rs := [7]) (by kernel_rfl) (by simp) ?_
                refine AllReadyIn.cons rfl (fun K hK => ?_) AllReadyIn.nil
                rw [if_pos (by kernel_rfl)]
                refine opIn_append_known _ _ 114 rfl _ _ rfl rfl _ w3 HRUN.out ?_
                refine hK _ _ ?_
                clear hK K
                simp only [Act.put, List.setIfInBounds_toArray]
                refine wpAnyIn_ready (rs := [8]) (by kernel_rfl) (by simp) ?_
                refine AllReadyIn.cons rfl (fun K hK => ?_) AllReadyIn.nil
                go_simp
                refine hK _ _ ?_
                clear hK K
                refine wpAnyIn_done (by kernel_rfl) ?_ _
                exact HQ.out
        · go_simp
          refine hK _ _ ?_
          clear hK K
          refine wpAnyIn_ready (rs := [0, 3]) (by kernel_rfl) (by simp) ?_
          refine AllReadyIn.cons rfl (fun K hK => ?_) (AllReadyIn.cons rfl (fun K hK => ?_) AllReadyIn.nil)
          · go_simp
            refine hK _ _ ?_
            clear hK K
            refine wpAnyIn_ready (rs := [3]) (by kernel_rfl) (by simp) ?_
            refine AllReadyIn.cons rfl (fun K hK => ?_) AllReadyIn.nil
            go_simp
            refine hK _ _ ?_
            clear hK K
            refine wpAnyIn_ready (rs := [5]) (by kernel_rfl) (by simp) ?_
            refine AllReadyIn.cons rfl (fun K hK => ?_) AllReadyIn.nil
            go_simp
            gi_wp2_with (refine ⟨trivial, ?_⟩; gi_at_call 75; refine (CallsIn.inRound L (callsIn_wide.2 hfg.out)).mono ?_; rintro e w5 ⟨rfl, hM5, hB5⟩; obtain ⟨a', c', w3, hrun, hq2, hq3, hq⟩ := HPO.out w5 hM5 hB5; have HRUN := hid hrun; have HQ := hid hq; have yq := hq2.1; have yqa := (hq2.alloc (Obj.cells #[.int .i64 o, .int .u64 (hi : Int), .int .u64 (lo : Int)] 36)).1; have yq3 := hq3.1; have zq3 := hq3.2; clear hM5 hB5 hrun hq hq2 hq3)
            refine wpAnyIn_ready (rs := [6]) (by kernel_rfl) (by simp) ?_
            refine AllReadyIn.cons rfl (fun K hK => ?_) AllReadyIn.nil
            go_simp
            refine hK _ _ ?_
            clear hK K
            refine wpAnyIn_ready (rs := [7]) (by kernel_rfl) (by simp) ?_
            refine AllReadyIn.cons rfl (fun K hK => ?_) AllReadyIn.nil
            rw [if_pos (by kernel_rfl)]
            refine opIn_append_known _ _ 114 rfl _ _ rfl rfl _ w3 HRUN.out ?_
            refine hK _ _ ?_
            clear hK K
            simp only [Act.put, List.setIfInBounds_toArray]
            refine wpAnyIn_ready (rs := [8]) (by kernel_rfl) (by simp) ?_
            refine AllReadyIn.cons rfl (fun K hK => ?_) AllReadyIn.nil
            go_simp
            refine hK _ _ ?_
            clear hK K
            refine wpAnyIn_done (by kernel_rfl) ?_ _
            exact HQ.out
          · go_simp
            refine hK _ _ ?_
            clear hK K
            refine wpAnyIn_ready (rs := [0, 5]) (by kernel_rfl) (by simp) ?_
            refine AllReadyIn.cons rfl (fun K hK => ?_) (AllReadyIn.cons rfl (fun K hK => ?_) AllReadyIn.nil)
            · go_simp
              refine hK _ _ ?_
              clear hK K
              refine wpAnyIn_ready (rs := [5]) (by kernel_rfl) (by simp) ?_
              refine AllReadyIn.cons rfl (fun K hK => ?_) AllReadyIn.nil
              go_simp
              gi_wp2_with (refine ⟨trivial, ?_⟩; gi_at_call 75; refine (CallsIn.inRound L (callsIn_wide.2 hfg.out)).mono ?_; rintro e w5 ⟨rfl, hM5, hB5⟩; obtain ⟨a', c', w3, hrun, hq2, hq3, hq⟩ := HPO.out w5 hM5 hB5; have HRUN := hid hrun; have HQ := hid hq; have yq := hq2.1; have yqa := (hq2.alloc (Obj.cells #[.int .i64 o, .int .u64 (hi : Int), .int .u64 (lo : Int)] 36)).1; have yq3 := hq3.1; have zq3 := hq3.2; clear hM5 hB5 hrun hq hq2 hq3)
              refine wpAnyIn_ready (rs := [6]) (by kernel_rfl) (by simp) ?_
              refine AllReadyIn.cons rfl (fun K hK => ?_) AllReadyIn.nil
              go_simp
              refine hK _ _ ?_
              clear hK K
              refine wpAnyIn_ready (rs := [7]) (by kernel_rfl) (by simp) ?_
              refine AllReadyIn.cons rfl (fun K hK => ?_) AllReadyIn.nil
              rw [if_pos (by kernel_rfl)]
              refine opIn_append_known _ _ 114 rfl _ _ rfl rfl _ w3 HRUN.out ?_
              refine hK _ _ ?_
              clear hK K
              simp only [Act.put, List.setIfInBounds_toArray]
              refine wpAnyIn_ready (rs := [8]) (by kernel_rfl) (by simp) ?_
              refine AllReadyIn.cons rfl (fun K hK => ?_) AllReadyIn.nil
              go_simp
              refine hK _ _ ?_
              clear hK K
              refine wpAnyIn_done (by kernel_rfl) ?_ _
              exact HQ.out
            · go_simp
              gi_wp2_with (refine ⟨trivial, ?_⟩; gi_at_call 75; refine (CallsIn.inRound L (callsIn_wide.2 hfg.out)).mono ?_; rintro e w5 ⟨rfl, hM5, hB5⟩; obtain ⟨a', c', w3, hrun, hq2, hq3, hq⟩ := HPO.out w5 hM5 hB5; have HRUN := hid hrun; have HQ := hid hq; have yq := hq2.1; have yqa := (hq2.alloc (Obj.cells #[.int .i64 o, .int .u64 (hi : Int), .int .u64 (lo : Int)] 36)).1; have yq3 := hq3.1; have zq3 := hq3.2; clear hM5 hB5 hrun hq hq2 hq3)
              refine wpAnyIn_ready (rs := [0, 6]) (by kernel_rfl) (by simp) ?_
              refine AllReadyIn.cons rfl (fun K hK => ?_) (AllReadyIn.cons rfl (fun K hK => ?_) AllReadyIn.nil)
              · go_simp
                refine hK _ _ ?_
                clear hK K
                refine wpAnyIn_ready (rs := [6]) (by kernel_rfl) (by simp) ?_
                refine AllReadyIn.cons rfl (fun K hK => ?_) AllReadyIn.nil
                go_simp
                refine hK _ _ ?_
                clear hK K
                refine wpAnyIn_ready (rs := [7]) (by kernel_rfl) (by simp) ?_
                refine AllReadyIn.cons rfl (fun K hK => ?_) AllReadyIn.nil
                rw [if_pos (by kernel_rfl)]
                refine opIn_append_known _ _ 114 rfl _ _ rfl rfl _ w3 HRUN.out ?_
                refine hK _ _ ?_
                clear hK K
                simp only [Act.put, List.setIfInBounds_toArray]
                refine wpAnyIn_ready (rs := [8]) (by kernel_rfl) (by simp) ?_
                refine AllReadyIn.cons rfl (fun K hK => ?_) AllReadyIn.nil
                go_simp
                refine hK _ _ ?_
                clear hK K
                refine wpAnyIn_done (by kernel_rfl) ?_ _
                exact HQ.out
              · go_simp
                refine hK _ _ ?_
                clear hK K
                refine wpAnyIn_ready (rs := [0]) (by kernel_rfl) (by simp) ?_
                refine AllReadyIn.cons rfl (fun K hK => ?_) AllReadyIn.nil
                go_simp
                refine hK _ _ ?_
                clear hK K
                refine wpAnyIn_ready (rs := [7]) (by kernel_rfl) (by simp) ?_
                refine AllReadyIn.cons rfl (fun K hK => ?_) AllReadyIn.nil
                rw [if_pos (by kernel_rfl)]
                refine opIn_append_known _ _ 114 rfl _ _ rfl rfl _ w3 HRUN.out ?_
                refine hK _ _ ?_
                clear hK K
                simp only [Act.put, List.setIfInBounds_toArray]
                refine wpAnyIn_ready (rs := [8]) (by kernel_rfl) (by simp) ?_
                refine AllReadyIn.cons rfl (fun K hK => ?_) AllReadyIn.nil
                go_simp
                refine hK _ _ ?_
                clear hK K
                refine wpAnyIn_done (by kernel_rfl) ?_ _
                exact HQ.out
      · go_simp
        refine hK _ _ ?_
        clear hK K
        refine wpAnyIn_ready (rs := [0, 2]) (by kernel_rfl) (by simp) ?_
        refine AllReadyIn.cons rfl (fun K hK => ?_) (AllReadyIn.cons rfl (fun K hK => ?_) AllReadyIn.nil)
        · go_simp
          refine hK _ _ ?_
          clear hK K
          refine wpAnyIn_ready (rs := [2]) (by kernel_rfl) (by simp) ?_
          refine AllReadyIn.cons rfl (fun K hK => ?_) AllReadyIn.nil
          go_simp
          refine hK _ _ ?_
          clear hK K
          refine wpAnyIn_ready (rs := [3]) (by kernel_rfl) (by simp) ?_
          refine AllReadyIn.cons rfl (fun K hK => ?_) AllReadyIn.nil
          go_simp
          refine hK _ _ ?_
          clear hK K
          refine wpAnyIn_ready (rs := [5]) (by kernel_rfl) (by simp) ?_
          refine AllReadyIn.cons rfl (fun K hK => ?_) AllReadyIn.nil
          go_simp
          gi_wp2_with (refine ⟨trivial, ?_⟩; gi_at_call 75; refine (CallsIn.inRound L (callsIn_wide.2 hfg.out)).mono ?_; rintro e w5 ⟨rfl, hM5, hB5⟩; obtain ⟨a', c', w3, hrun, hq2, hq3, hq⟩ := HPO.out w5 hM5 hB5; have HRUN := hid hrun; have HQ := hid hq; have yq := hq2.1; have yqa := (hq2.alloc (Obj.cells #[.int .i64 o, .int .u64 (hi : Int), .int .u64 (lo : Int)] 36)).1; have yq3 := hq3.1; have zq3 := hq3.2; clear hM5 hB5 hrun hq hq2 hq3)
          refine wpAnyIn_ready (rs := [6]) (by kernel_rfl) (by simp) ?_
          refine AllReadyIn.cons rfl (fun K hK => ?_) AllReadyIn.nil
          go_simp
          refine hK _ _ ?_
          clear hK K
          refine wpAnyIn_ready (rs := [7]) (by kernel_rfl) (by simp) ?_
          refine AllReadyIn.cons rfl (fun K hK => ?_) AllReadyIn.nil
          rw [if_pos (by kernel_rfl)]
          refine opIn_append_known _ _ 114 rfl _ _ rfl rfl _ w3 HRUN.out ?_
          refine hK _ _ ?_
          clear hK K
          simp only [Act.put, List.setIfInBounds_toArray]
          refine wpAnyIn_ready (rs := [8]) (by kernel_rfl) (by simp) ?_
          refine AllReadyIn.cons rfl (fun K hK => ?_) AllReadyIn.nil
          go_simp
          refine hK _ _ ?_
          clear hK K
          refine wpAnyIn_done (by kernel_rfl) ?_ _
          exact HQ.out
        · go_simp
          refine hK _ _ ?_
          clear hK K
          refine wpAnyIn_ready (rs := [0, 3]) (by kernel_rfl) (by simp) ?_
          refine AllReadyIn.cons rfl (fun K hK => ?_) (AllReadyIn.cons rfl (fun K hK => ?_) AllReadyIn.nil)
          · go_simp
            refine hK _ _ ?_
            clear hK K
            refine wpAnyIn_ready (rs := [3]) (by kernel_rfl) (by simp) ?_
            refine AllReadyIn.cons rfl (fun K hK => ?_) AllReadyIn.nil
            go_simp
            refine hK _ _ ?_
            clear hK K
            refine wpAnyIn_ready (rs := [5]) (by kernel_rfl) (by simp) ?_
            refine AllReadyIn.cons rfl (fun K hK => ?_) AllReadyIn.nil
            go_simp
            gi_wp2_with (refine ⟨trivial, ?_⟩; gi_at_call 75; refine (CallsIn.inRound L (callsIn_wide.2 hfg.out)).mono ?_; rintro e w5 ⟨rfl, hM5, hB5⟩; obtain ⟨a', c', w3, hrun, hq2, hq3, hq⟩ := HPO.out w5 hM5 hB5; have HRUN := hid hrun; have HQ := hid hq; have yq := hq2.1; have yqa := (hq2.alloc (Obj.cells #[.int .i64 o, .int .u64 (hi : Int), .int .u64 (lo : Int)] 36)).1; have yq3 := hq3.1; have zq3 := hq3.2; clear hM5 hB5 hrun hq hq2 hq3)
            refine wpAnyIn_ready (rs := [6]) (by kernel_rfl) (by simp) ?_
            refine AllReadyIn.cons rfl (fun K hK => ?_) AllReadyIn.nil
            go_simp
            refine hK _ _ ?_
            clear hK K
            refine wpAnyIn_ready (rs := [7]) (by kernel_rfl) (by simp) ?_
            refine AllReadyIn.cons rfl (fun K hK => ?_) AllReadyIn.nil
            rw [if_pos (by kernel_rfl)]
            refine opIn_append_known _ _ 114 rfl _ _ rfl rfl _ w3 HRUN.out ?_
            refine hK _ _ ?_
            clear hK K
            simp only [Act.put, List.setIfInBounds_toArray]
            refine wpAnyIn_ready (rs := [8]) (by kernel_rfl) (by simp) ?_
            refine AllReadyIn.cons rfl (fun K hK => ?_) AllReadyIn.nil
            go_simp
            refine hK _ _ ?_
            clear hK K
            refine wpAnyIn_done (by kernel_rfl) ?_ _
            exact HQ.out
          · go_simp
            refine hK _ _ ?_
            clear hK K
            refine wpAnyIn_ready (rs := [0, 5]) (by kernel_rfl) (by simp) ?_
            refine AllReadyIn.cons rfl (fun K hK => ?_) (AllReadyIn.cons rfl (fun K hK => ?_) AllReadyIn.nil)
            · go_simp
              refine hK _ _ ?_
              clear hK K
              refine wpAnyIn_ready (rs := [5]) (by kernel_rfl) (by simp) ?_
              refine AllReadyIn.cons rfl (fun K hK => ?_) AllReadyIn.nil
              go_simp
              gi_wp2_with (refine ⟨trivial, ?_⟩; gi_at_call 75; refine (CallsIn.inRound L (callsIn_wide.2 hfg.out)).mono ?_; rintro e w5 ⟨rfl, hM5, hB5⟩; obtain ⟨a', c', w3, hrun, hq2, hq3, hq⟩ := HPO.out w5 hM5 hB5; have HRUN := hid hrun; have HQ := hid hq; have yq := hq2.1; have yqa := (hq2.alloc (Obj.cells #[.int .i64 o, .int .u64 (hi : Int), .int .u64 (lo : Int)] 36)).1; have yq3 := hq3.1; have zq3 := hq3.2; clear hM5 hB5 hrun hq hq2 hq3)
              refine wpAnyIn_ready (rs := [6]) (by kernel_rfl) (by simp) ?_
              refine AllReadyIn.cons rfl (fun K hK => ?_) AllReadyIn.nil
              go_simp
              refine hK _ _ ?_
              clear hK K
              refine wpAnyIn_ready (rs := [7]) (by kernel_rfl) (by simp) ?_
              refine AllReadyIn.cons rfl (fun K hK => ?_) AllReadyIn.nil
              rw [if_pos (by kernel_rfl)]
              refine opIn_append_known _ _ 114 rfl _ _ rfl rfl _ w3 HRUN.out ?_
              refine hK _ _ ?_
              clear hK K
              simp only [Act.put, List.setIfInBounds_toArray]
              refine wpAnyIn_ready (rs := [8]) (by kernel_rfl) (by simp) ?_
              refine AllReadyIn.cons rfl (fun K hK => ?_) AllReadyIn.nil
              go_simp
              refine hK _ _ ?_
              clear hK K
              refine wpAnyIn_done (by kernel_rfl) ?_ _
              exact HQ.out
            · go_simp
              gi_wp2_with (refine ⟨trivial, ?_⟩; gi_at_call 75; refine (CallsIn.inRound L (callsIn_wide.2 hfg.out)).mono ?_; rintro e w5 ⟨rfl, hM5, hB5⟩; obtain ⟨a', c', w3, hrun, hq2, hq3, hq⟩ := HPO.out w5 hM5 hB5; have HRUN := hid hrun; have HQ := hid hq; have yq := hq2.1; have yqa := (hq2.alloc (Obj.cells #[.int .i64 o, .int .u64 (hi : Int), .int .u64 (lo : Int)] 36)).1; have yq3 := hq3.1; have zq3 := hq3.2; clear hM5 hB5 hrun hq hq2 hq3)
              refine wpAnyIn_ready (rs := [0, 6]) (by kernel_rfl) (by simp) ?_
              refine AllReadyIn.cons rfl (fun K hK => ?_) (AllReadyIn.cons rfl (fun K hK => ?_) AllReadyIn.nil)
              · go_simp
                refine hK _ _ ?_
                clear hK K
                refine wpAnyIn_ready (rs := [6]) (by kernel_rfl) (by simp) ?_
                refine AllReadyIn.cons rfl (fun K hK => ?_) AllReadyIn.nil
                go_simp
                refine hK _ _ ?_
                clear hK K
                refine wpAnyIn_ready (rs := [7]) (by kernel_rfl) (by simp) ?_
                refine AllReadyIn.cons rfl (fun K hK => ?_) AllReadyIn.nil
                rw [if_pos (by kernel_rfl)]
                refine opIn_append_known _ _ 114 rfl _ _ rfl rfl _ w3 HRUN.out ?_
                refine hK _ _ ?_
                clear hK K
                simp only [Act.put, List.setIfInBounds_toArray]
                refine wpAnyIn_ready (rs := [8]) (by kernel_rfl) (by simp) ?_
                refine AllReadyIn.cons rfl (fun K hK => ?_) AllReadyIn.nil
                go_simp
                refine hK _ _ ?_
                clear hK K
                refine wpAnyIn_done (by kernel_rfl) ?_ _
                exact HQ.out
              · go_simp
                refine hK _ _ ?_
                clear hK K
                refine wpAnyIn_ready (rs := [0]) (by kernel_rfl) (by simp) ?_
                refine AllReadyIn.cons rfl (fun K hK => ?_) AllReadyIn.nil
                go_simp
                refine hK _ _ ?_
                clear hK K
                refine wpAnyIn_ready (rs := [7]) (by kernel_rfl) (by simp) ?_
                refine AllReadyIn.cons rfl (fun K hK => ?_) AllReadyIn.nil
                rw [if_pos (by kernel_rfl)]
                refine opIn_append_known _ _ 114 rfl _ _ rfl rfl _ w3 HRUN.out ?_
                refine hK _ _ ?_
                clear hK K
                simp only [Act.put, List.setIfInBounds_toArray]
                refine wpAnyIn_ready (rs := [8]) (by kernel_rfl) (by simp) ?_
                refine AllReadyIn.cons rfl (fun K hK => ?_) AllReadyIn.nil
                go_simp
                refine hK _ _ ?_
                clear hK K
                refine wpAnyIn_done (by kernel_rfl) ?_ _
                exact HQ.out
    · go_simp
      refine hK _ _ ?_
      clear hK K
      refine wpAnyIn_ready (rs := [0, 1]) (by kernel_rfl) (by simp) ?_
      refine AllReadyIn.cons rfl (fun K hK => ?_) (AllReadyIn.cons rfl (fun K hK => ?_) AllReadyIn.nil)
      · go_simp
        refine hK _ _ ?_
        clear hK K
        refine wpAnyIn_ready (rs := [1]) (by kernel_rfl) (by simp) ?_
        refine AllReadyIn.cons rfl (fun K hK => ?_) AllReadyIn.nil
        go_simp
        refine hK _ _ ?_
        clear hK K
        refine wpAnyIn_ready (rs := [2]) (by kernel_rfl) (by simp) ?_
        refine AllReadyIn.cons rfl (fun K hK => ?_) AllReadyIn.nil
        go_simp
        refine hK _ _ ?_
        clear hK K
        refine wpAnyIn_ready (rs := [3]) (by kernel_rfl) (by simp) ?_
        refine AllReadyIn.cons rfl (fun K hK => ?_) AllReadyIn.nil
        go_simp
        refine hK _ _ ?_
        clear hK K
        refine wpAnyIn_ready (rs := [5]) (by kernel_rfl) (by simp) ?_
        refine AllReadyIn.cons rfl (fun K hK => ?_) AllReadyIn.nil
        go_simp
        gi_wp2_with (refine ⟨trivial, ?_⟩; gi_at_call 75; refine (CallsIn.inRound L (callsIn_wide.2 hfg.out)).mono ?_; rintro e w5 ⟨rfl, hM5, hB5⟩; obtain ⟨a', c', w3, hrun, hq2, hq3, hq⟩ := HPO.out w5 hM5 hB5; have HRUN := hid hrun; have HQ := hid hq; have yq := hq2.1; have yqa := (hq2.alloc (Obj.cells #[.int .i64 o, .int .u64 (hi : Int), .int .u64 (lo : Int)] 36)).1; have yq3 := hq3.1; have zq3 := hq3.2; clear hM5 hB5 hrun hq hq2 hq3)
        refine wpAnyIn_ready (rs := [6]) (by kernel_rfl) (by simp) ?_
        refine AllReadyIn.cons rfl (fun K hK => ?_) AllReadyIn.nil
        go_simp
        refine hK _ _ ?_
        clear hK K
        refine wpAnyIn_ready (rs := [7]) (by kernel_rfl) (by simp) ?_
        refine AllReadyIn.cons rfl (fun K hK => ?_) AllReadyIn.nil
        rw [if_pos (by kernel_rfl)]
        refine opIn_append_known _ _ 114 rfl _ _ rfl rfl _ w3 HRUN.out ?_
        refine hK _ _ ?_
        clear hK K
        simp only [Act.put, List.setIfInBounds_toArray]
        refine wpAnyIn_ready (rs := [8]) (by kernel_rfl) (by simp) ?_
        refine AllReadyIn.cons rfl (fun K hK => ?_) AllReadyIn.nil
        go_simp
        refine hK _ _ ?_
        clear hK K
        refine wpAnyIn_done (by kernel_rfl) ?_ _
        exact HQ.out
      · go_simp
        refine hK _ _ ?_
        clear hK K
        refine wpAnyIn_ready (rs := [0, 2]) (by kernel_rfl) (by simp) ?_
        refine AllReadyIn.cons rfl (fun K hK => ?_) (AllReadyIn.cons rfl (fun K hK => ?_) AllReadyIn.nil)
        · go_simp
          refine hK _ _ ?_
          clear hK K
          refine wpAnyIn_ready (rs := [2]) (by kernel_rfl) (by simp) ?_
          refine AllReadyIn.cons rfl (fun K hK => ?_) AllReadyIn.nil
          go_simp
          refine hK _ _ ?_
          clear hK K
          refine wpAnyIn_ready (rs := [3]) (by kernel_rfl) (by simp) ?_
          refine AllReadyIn.cons rfl (fun K hK => ?_) AllReadyIn.nil
          go_simp
          refine hK _ _ ?_
          clear hK K
          refine wpAnyIn_ready (rs := [5]) (by kernel_rfl) (by simp) ?_
          refine AllReadyIn.cons rfl (fun K hK => ?_) AllReadyIn.nil
          go_simp
          gi_wp2_with (refine ⟨trivial, ?_⟩; gi_at_call 75; refine (CallsIn.inRound L (callsIn_wide.2 hfg.out)).mono ?_; rintro e w5 ⟨rfl, hM5, hB5⟩; obtain ⟨a', c', w3, hrun, hq2, hq3, hq⟩ := HPO.out w5 hM5 hB5; have HRUN := hid hrun; have HQ := hid hq; have yq := hq2.1; have yqa := (hq2.alloc (Obj.cells #[.int .i64 o, .int .u64 (hi : Int), .int .u64 (lo : Int)] 36)).1; have yq3 := hq3.1; have zq3 := hq3.2; clear hM5 hB5 hrun hq hq2 hq3)
          refine wpAnyIn_ready (rs := [6]) (by kernel_rfl) (by simp) ?_
          refine AllReadyIn.cons rfl (fun K hK => ?_) AllReadyIn.nil
          go_simp
          refine hK _ _ ?_
          clear hK K
          refine wpAnyIn_ready (rs := [7]) (by kernel_rfl) (by simp) ?_
          refine AllReadyIn.cons rfl (fun K hK => ?_) AllReadyIn.nil
          rw [if_pos (by kernel_rfl)]
          refine opIn_append_known _ _ 114 rfl _ _ rfl rfl _ w3 HRUN.out ?_
          refine hK _ _ ?_
          clear hK K
          simp only [Act.put, List.setIfInBounds_toArray]
          refine wpAnyIn_ready (rs := [8]) (by kernel_rfl) (by simp) ?_
          refine AllReadyIn.cons rfl (fun K hK => ?_) AllReadyIn.nil
          go_simp
          refine hK _ _ ?_
          clear hK K
          refine wpAnyIn_done (by kernel_rfl) ?_ _
          exact HQ.out
        · go_simp
          refine hK _ _ ?_
          clear hK K
          refine wpAnyIn_ready (rs := [0, 3]) (by kernel_rfl) (by simp) ?_
          refine AllReadyIn.cons rfl (fun K hK => ?_) (AllReadyIn.cons rfl (fun K hK => ?_) AllReadyIn.nil)
          · go_simp
            refine hK _ _ ?_
            clear hK K
            refine wpAnyIn_ready (rs := [3]) (by kernel_rfl) (by simp) ?_
            refine AllReadyIn.cons rfl (fun K hK => ?_) AllReadyIn.nil
            go_simp
            refine hK _ _ ?_
            clear hK K
            refine wpAnyIn_ready (rs := [5]) (by kernel_rfl) (by simp) ?_
            refine AllReadyIn.cons rfl (fun K hK => ?_) AllReadyIn.nil
            go_simp
            gi_wp2_with (refine ⟨trivial, ?_⟩; gi_at_call 75; refine (CallsIn.inRound L (callsIn_wide.2 hfg.out)).mono ?_; rintro e w5 ⟨rfl, hM5, hB5⟩; obtain ⟨a', c', w3, hrun, hq2, hq3, hq⟩ := HPO.out w5 hM5 hB5; have HRUN := hid hrun; have HQ := hid hq; have yq := hq2.1; have yqa := (hq2.alloc (Obj.cells #[.int .i64 o, .int .u64 (hi : Int), .int .u64 (lo : Int)] 36)).1; have yq3 := hq3.1; have zq3 := hq3.2; clear hM5 hB5 hrun hq hq2 hq3)
            refine wpAnyIn_ready (rs := [6]) (by kernel_rfl) (by simp) ?_
            refine AllReadyIn.cons rfl (fun K hK => ?_) AllReadyIn.nil
            go_simp
            refine hK _ _ ?_
            clear hK K
            refine wpAnyIn_ready (rs := [7]) (by kernel_rfl) (by simp) ?_
            refine AllReadyIn.cons rfl (fun K hK => ?_) AllReadyIn.nil
            rw [if_pos (by kernel_rfl)]
            refine opIn_append_known _ _ 114 rfl _ _ rfl rfl _ w3 HRUN.out ?_
            refine hK _ _ ?_
            clear hK K
            simp only [Act.put, List.setIfInBounds_toArray]
            refine wpAnyIn_ready (rs := [8]) (by kernel_rfl) (by simp) ?_
            refine AllReadyIn.cons rfl (fun K hK => ?_) AllReadyIn.nil
            go_simp
            refine hK _ _ ?_
            clear hK K
            refine wpAnyIn_done (by kernel_rfl) ?_ _
            exact HQ.out
          · go_simp
            refine hK _ _ ?_
            clear hK K
            refine wpAnyIn_ready (rs := [0, 5]) (by kernel_rfl) (by simp) ?_
            refine AllReadyIn.cons rfl (fun K hK => ?_) (AllReadyIn.cons rfl (fun K hK => ?_) AllReadyIn.nil)
            · go_simp
              refine hK _ _ ?_
              clear hK K
              refine wpAnyIn_ready (rs := [5]) (by kernel_rfl) (by simp) ?_
              refine AllReadyIn.cons rfl (fun K hK => ?_) AllReadyIn.nil
              go_simp
              gi_wp2_with (refine ⟨trivial, ?_⟩; gi_at_call 75; refine (CallsIn.inRound L (callsIn_wide.2 hfg.out)).mono ?_; rintro e w5 ⟨rfl, hM5, hB5⟩; obtain ⟨a', c', w3, hrun, hq2, hq3, hq⟩ := HPO.out w5 hM5 hB5; have HRUN := hid hrun; have HQ := hid hq; have yq := hq2.1; have yqa := (hq2.alloc (Obj.cells #[.int .i64 o, .int .u64 (hi : Int), .int .u64 (lo : Int)] 36)).1; have yq3 := hq3.1; have zq3 := hq3.2; clear hM5 hB5 hrun hq hq2 hq3)
              refine wpAnyIn_ready (rs := [6]) (by kernel_rfl) (by simp) ?_
              refine AllReadyIn.cons rfl (fun K hK => ?_) AllReadyIn.nil
              go_simp
              refine hK _ _ ?_
              clear hK K
              refine wpAnyIn_ready (rs := [7]) (by kernel_rfl) (by simp) ?_
              refine AllReadyIn.cons rfl (fun K hK => ?_) AllReadyIn.nil
              rw [if_pos (by kernel_rfl)]
              refine opIn_append_known _ _ 114 rfl _ _ rfl rfl _ w3 HRUN.out ?_
              refine hK _ _ ?_
              clear hK K
              simp only [Act.put, List.setIfInBounds_toArray]
              refine wpAnyIn_ready (rs := [8]) (by kernel_rfl) (by simp) ?_
              refine AllReadyIn.cons rfl (fun K hK => ?_) AllReadyIn.nil
              go_simp
              refine hK _ _ ?_
              clear hK K
              refine wpAnyIn_done (by kernel_rfl) ?_ _
              exact HQ.out
            · go_simp
              gi_wp2_with (refine ⟨trivial, ?_⟩; gi_at_call 75; refine (CallsIn.inRound L (callsIn_wide.2 hfg.out)).mono ?_; rintro e w5 ⟨rfl, hM5, hB5⟩; obtain ⟨a', c', w3, hrun, hq2, hq3, hq⟩ := HPO.out w5 hM5 hB5; have HRUN := hid hrun; have HQ := hid hq; have yq := hq2.1; have yqa := (hq2.alloc (Obj.cells #[.int .i64 o, .int .u64 (hi : Int), .int .u64 (lo : Int)] 36)).1; have yq3 := hq3.1; have zq3 := hq3.2; clear hM5 hB5 hrun hq hq2 hq3)
              refine wpAnyIn_ready (rs := [0, 6]) (by kernel_rfl) (by simp) ?_
              refine AllReadyIn.cons rfl (fun K hK => ?_) (AllReadyIn.cons rfl (fun K hK => ?_) AllReadyIn.nil)
              · go_simp
                refine hK _ _ ?_
                clear hK K
                refine wpAnyIn_ready (rs := [6]) (by kernel_rfl) (by simp) ?_
                refine AllReadyIn.cons rfl (fun K hK => ?_) AllReadyIn.nil
                go_simp
                refine hK _ _ ?_
                clear hK K
                refine wpAnyIn_ready (rs := [7]) (by kernel_rfl) (by simp) ?_
                refine AllReadyIn.cons rfl (fun K hK => ?_) AllReadyIn.nil
                rw [if_pos (by kernel_rfl)]
                refine opIn_append_known _ _ 114 rfl _ _ rfl rfl _ w3 HRUN.out ?_
                refine hK _ _ ?_
                clear hK K
                simp only [Act.put, List.setIfInBounds_toArray]
                refine wpAnyIn_ready (rs := [8]) (by kernel_rfl) (by simp) ?_
                refine AllReadyIn.cons rfl (fun K hK => ?_) AllReadyIn.nil
                go_simp
                refine hK _ _ ?_
                clear hK K
                refine wpAnyIn_done (by kernel_rfl) ?_ _
                exact HQ.out
              · go_simp
                refine hK _ _ ?_
                clear hK K
                refine wpAnyIn_ready (rs := [0]) (by kernel_rfl) (by simp) ?_
                refine AllReadyIn.cons rfl (fun K hK => ?_) AllReadyIn.nil
                go_simp
                refine hK _ _ ?_
                clear hK K
                refine wpAnyIn_ready (rs := [7]) (by kernel_rfl) (by simp) ?_
                refine AllReadyIn.cons rfl (fun K hK => ?_) AllReadyIn.nil
                rw [if_pos (by kernel_rfl)]
                refine opIn_append_known _ _ 114 rfl _ _ rfl rfl _ w3 HRUN.out ?_
                refine hK _ _ ?_
                clear hK K
                simp only [Act.put, List.setIfInBounds_toArray]
                refine wpAnyIn_ready (rs := [8]) (by kernel_rfl) (by simp) ?_
                refine AllReadyIn.cons rfl (fun K hK => ?_) AllReadyIn.nil
                go_simp
                refine hK _ _ ?_
                clear hK K
                refine wpAnyIn_done (by kernel_rfl) ?_ _
                exact HQ.out
  case done =>
    intro D W hD hI hK
    have hla : (tells true l n).attach.length = (G true l n).length := by rw [List.length_attach]; rfl
    have hok := HH.out.inv.ok
    have hGn : ∀ x ∈ G true l n, x ∈ nums l := fun x hx => G_nums hok hx
    have hnd := G_nodup hok true n
    obtain ⟨hbox, hcc, hcm, hbut⟩ := hI
    rw [vals_all] at hbox hcm
    rw [hla, runC_eq _ (fun x hx => nums_nn hok (hGn x hx)) hnd] at hbox
    rw [runT_eq HH.out.inv _ hGn hnd] at hcm
    obtain ⟨a, c, hl, hO⟩ := hbox
    have hfe := hid (fell_any hcm n)
    have y2 := hcc.1
    have HFIN : Hid (∀ w4, Cm w4 A kn mo (pairs X (cuts l (G true l n))) (zer X (G true l n)) (cuts l (G true l n)) → But (· = A.kb) W w4 → Lies w4 ⟨w0.heap.size, 0, none⟩ (.slice a (G true l n).length c) ∧ w4.heap[D]? = some (.deferred (some [])) ∧ (Ow (w4.putObj D (.deferred none)) w.heap.size 36 3 a (G true l n).length c (caps ((G true l n).map (fun k => (tk X k).1))) ∧ Cat (w4.putObj D (.deferred none)) A kn mo (zer X (G true l n)) (cuts l (G true l n)) ∧ But A.Wr w (w4.putObj D (.deferred none)))) := by
      intro w4 hM4 hB4
      have hkb : A.kb < w.heap.size := hAll.out _ (.inr (.inr (.inr (.inr (.inr rfl)))))
      have hDl : D < W.heap.size := (Array.getElem?_eq_some_iff.1 hK).1
      have hK4 : w4.heap[D]? = some (.deferred (some [])) := (hB4.block D hDl (by show ¬ D = A.kb; omega)).trans hK
      have hbp := but_grown (grownBy_putObj' w4 D (.deferred none))
      have hAd : ∀ k, A.All k → ¬ (some D = some k) := fun k hk e => by have := hAll.out k hk; cases e; omega
      have htk : ∀ x ∈ nums (cuts l (G true l n)), tk (zer X (G true l n)) x = tk X x := fun x hx => by
        obtain ⟨h1, h2⟩ := nums_cuts.1 hx
        exact zer_tk _ X x (nums_nn hok h1) (fun y hy => nums_nn hok (hGn y hy)) h2
      refine ⟨hl.but hB4 (by show ¬ w0.heap.size = A.kb; omega), hK4, ((hO.but hB4 (fun j hj e => by have := (hO.blk j hj).1; omega)).put hK4).mono (by omega), ⟨?_, (HH.out.inv.cuts _ hM4.kin.ok).ext (by rw [zer_len]; exact HH.out.inv.len) htk⟩, ?_⟩
      · rw [pairs_ext htk]
        exact hM4.but hbp hAd
      · exact ((hbut.trans (hB4.mono (fun k e => .inr (.inr (.inr e))))).comp hbp (fun k e => .inr (by cases e; omega)))
    clear hbut hcm hl hO hcc hK
    gi_wp2_with (refine ⟨trivial, ?_⟩; gi_at_call 76; refine (callsIn_wide.2 hfe.out).mono ?_; rintro e w4 ⟨rfl, hM4, hB4⟩; obtain ⟨hl4, hK4, hfin⟩ := HFIN.out w4 hM4 hB4; have y4 := hl4.1; have HF := hid hfin; have HK4 := hid hK4; clear hM4 hB4 hl4 hfin hK4)
    refine ⟨by simp, .inl ⟨_, _, rfl, run_takeDeferred HK4.out, ?_⟩⟩
    refine ⟨.tuple #[.slice a (G true l n).length c, .int .i64 0], ?_, a, c, rfl, HF.out⟩
    simp [results, Tryz.f38, go_sem]
end Go.Proofs.YtgihdchgdejkhaaGreatDoor
