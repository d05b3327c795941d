import Derived.Test.YtffmodpgddecnaaZ28
import Derived.Test.YtffmodpgddecnaaZ05
import Derived.Shelf.SlIterI.Nil
import Derived.Sort.OwnSortedInts
import Derived.Lib.SlKeysI
namespace Go.Proofs.Ytffmodpgddecnaa.V.E
open Go.RowKit Go.Maps
open Go.Proofs.Ytffmodpgddecnaa.H (B64 Cp)
set_option linter.unusedVariables false
set_option linter.unusedSimpArgs false
section
variable {w w' : World}
set_option maxRecDepth 100000 in
set_option maxHeartbeats 2000000 in
theorem run_bad (c : Cf) (hc : c.may = false) (a : Option Addr) (n cap : Nat) (al : Option Addr) (nl cl_ : Nat) : Calls Try.prog 6 #[c.v, .slice a n cap, .slice al nl cl_] w fun e w' => e = .returned (.tuple #[.slice none 0 0, .int .i64 16]) ∧ Below w.heap.size w w' := by
  obtain ⟨W, hW⟩ : ∃ W, W = w.alloc (Obj.cells c.L.toArray 23) := ⟨_, rfl⟩
  have hB : Below w.heap.size w W := by rw [hW]; exact below1 _ _
  have hX : R.Bx W w.heap.size c.L := by rw [hW]; exact R.Bx.new w c.L 23
  have HLd := hid (ldF hX)
  have HB := hid hB
  have HW := hid hW
  have HN := hid (pnew_bad c hc a n cap W)
  clear hX hB hW
  go_enter Try.func6, Try.ntmps6
  go_upto_region 1 with fail
  rw [← HW.out]
  go_upto_region 2 with (first | ((with_reducible refine R.ld_arm HLd.out ?_ ?_); (· rfl)) | (go_at_call 8; refine HN.out.mono ?_; rintro e w1 ⟨rfl, hb1⟩; have HB1 := hid hb1; clear hb1))
  go_wp2
  exact bodyPost_ret (v := .tuple #[.slice none 0 0, .int .i64 16]) (by simp [results, Try.results6, go_sem]) rfl ⟨rfl, below_call HB.out HB1.out⟩
set_option maxRecDepth 100000 in
set_option maxHeartbeats 2000000 in
theorem run_many (c : Cf) (hc : c.may = true) (a : Option Addr) (n cap : Nat) (hn : 4096 < n) (al : Option Addr) (nl cl_ : Nat) : Calls Try.prog 6 #[c.v, .slice a n cap, .slice al nl cl_] w fun e w' => e = .returned (.tuple #[.slice none 0 0, .int .i64 23]) ∧ Below w.heap.size w w' := by
  obtain ⟨W, hW⟩ : ∃ W, W = w.alloc (Obj.cells c.L.toArray 23) := ⟨_, rfl⟩
  have hB : Below w.heap.size w W := by rw [hW]; exact below1 _ _
  have hX : R.Bx W w.heap.size c.L := by rw [hW]; exact R.Bx.new w c.L 23
  have HLd := hid (ldF hX)
  have HB := hid hB
  have HW := hid hW
  have HN := hid (pnew_many c hc a n cap W hn)
  clear hX hB hW
  go_enter Try.func6, Try.ntmps6
  go_upto_region 1 with fail
  rw [← HW.out]
  go_upto_region 2 with (first | ((with_reducible refine R.ld_arm HLd.out ?_ ?_); (· rfl)) | (go_at_call 8; refine HN.out.mono ?_; rintro e w1 ⟨rfl, hb1⟩; have HB1 := hid hb1; clear hb1))
  go_wp2
  exact bodyPost_ret (v := .tuple #[.slice none 0 0, .int .i64 23]) (by simp [results, Try.results6, go_sem]) rfl ⟨rfl, below_call HB.out HB1.out⟩
theorem run_size {i nl : Nat} (hlt : i < nl) (h : nl * 136 ≤ 140737488355328) : (i + 1) * 64 ≤ 140737488355328 :=
  Nat.le_trans (Nat.mul_le_mul hlt (by decide)) h
def RunRel (w : World) (h : Hm) (C : List R.Cl) (nl : Nat) (v10 v24 : Value) (U : World) : Prop :=
  ∃ i a c X bo bl N, v10 = .slice a i c ∧ v24 = .int .i64 (i : Int) ∧ i ≤ nl ∧ Rn w U h C i a c X bo bl N
def RunOut (w : World) (p : Pm) (C : List R.Cl) (nl : Nat) (e : Ending) (w' : World) : Prop :=
  ∃ a c X, e = .returned (.tuple #[.slice a nl c, .int .i64 0]) ∧ Rbag w' w.heap.size a nl c X ∧ X.map Prod.fst = rpl p pl0 C ∧ Below w.heap.size w w'
set_option maxRecDepth 100000 in
set_option maxHeartbeats 4000000 in
theorem run_ok (c : Cf) (hc : c.may = true) {a : Option Addr} {n cap : Nat} {f : Nat → Nat} (hw : D.Ws w a n cap f) (hn : n ≤ 4096) {al : Option Addr} {nl : Nat} (cl_ : Nat) {C : List R.Cl} {D' G' : Nat → R.Sl} (hC : Cz w al nl C D' G') (hnl : nl * 136 ≤ 140737488355328) :
    Calls Try.prog 6 #[c.v, .slice a n cap, .slice al nl cl_] w (RunOut w (c.pm n (fun j => D.cutN (f j) c.W)) C nl) := by
  obtain ⟨W, hW⟩ : ∃ W, W = w.alloc (Obj.cells c.L.toArray 23) := ⟨_, rfl⟩
  have hB : Below w.heap.size w W := by rw [hW]; exact below1 _ _
  have hX : R.Bx W w.heap.size c.L := by rw [hW]; exact R.Bx.new w c.L 23
  have HLd := hid (ldF hX)
  have HB := hid hB
  have HW := hid hW
  have HN := hid (pnew_ok c hc a n cap f W (hw.later hB) hn)
  have HFit := hid (fit_new hc hn hw.small)
  have HCz := hid hC
  have HLen := hid hC.len
  have hnl2 : nl ≤ 140737488355328 := Nat.le_trans (Nat.le_mul_of_pos_right _ (by omega)) hnl
  have HNl := hid hnl
  have HCm := hid hc
  clear hX hB hW hC hnl hw hn hc
  go_enter Try.func6, Try.ntmps6
  go_upto_region 1 with fail
  rw [← HW.out]
  go_upto_region 6 with (first | ((with_reducible refine R.ld_arm HLd.out ?_ ?_); (· rfl)) | (go_at_call 8; refine HN.out.mono ?_; rintro e w1 ⟨h, N, rfl, hmd, hcf, hhn, hhf, hNn, hgs, hb1⟩; have HMd := hid hmd; have HCf := hid hcf; have HHn := hid hhn; have HHf := hid hhf; have HNn := hid hNn; have HGs := hid hgs; have HB1 := hid hb1; clear hmd hcf hhn hhf hNn hgs hb1))
  have hpm : h.p = c.pm n (fun j => D.cutN (f j) c.W) := by unfold Hm.p; rw [HCf.out, HHn.out, HHf.out]
  have hcm : h.cf.may = true := by rw [HCf.out]; exact HCm.out
  have HPm := hid hpm
  have HCm2 := hid hcm
  have HSt : Hid (Rn w w1 h C 0 none 0 [] h.bo h.bl N) := by
    have hgs := HGs.out
    have hbs := HB.out.size
    refine ⟨Bag.nil _ _ _ _ _, rfl, ⟨_, _, HMd.out⟩, by rw [hpm]; exact HFit.out, fun j hj => ?_, fun j hj => ?_, below_call HB.out HB1.out⟩
    · rcases hj with e | e | e | e
      · exact Nat.le_trans hbs (HNn.out j e)
      · omega
      · omega
      · omega
    · rcases hj with ⟨_, e, _⟩ | ⟨x, e, _⟩ <;> cases e
  clear hpm hcm HMd HCf HHn HHf HNn HGs HN HFit
  go_loopw [10, 24] (RunRel w h C nl) (fun _ v _ => nl - S.ivN v)
  case atStart => exact ⟨0, none, 0, [], _, _, _, rfl, rfl, Nat.zero_le _, HSt.out⟩
  case round =>
    clear HSt
    obtain ⟨i, ai, ci, X, bo, bl, M, rfl, rfl, hi, hrn⟩ := hrel
    have HR := hid hrn
    clear hrn
    by_cases hlt : i < nl
    · have hd : decide ((i : Int) < (nl : Int)) = true := decide_eq_true (by omega)
      obtain ⟨cl, hcl⟩ : ∃ cl, C[i]? = some cl := ⟨_, List.getElem?_eq_getElem (by have := HLen.out; omega)⟩
      obtain ⟨b, o, rfl, hrg⟩ := HCz.out.at_ (by omega)
      have hrg := hrg i cl hcl
      have HIs := hid (HCz.out.is i cl hcl).1
      have HRg : Hid (∀ U, Below w.heap.size w U → U.rangeAt b (o + i * 13) (R.cC cl (D' i) (G' i))) := fun U hU j v hv => cell_later hU (hrg j v hv)
      have HCl := hid hcl
      obtain ⟨dd, hdd⟩ : ∃ dd, dd = D' i := ⟨_, rfl⟩
      obtain ⟨gg, hgg⟩ : ∃ gg, gg = G' i := ⟨_, rfl⟩
      rw [← hdd, ← hgg] at HIs HRg
      have HLd3 := hid (ldC_at (HRg.out wr HR.out.bel))
      have HS3 := hid (Bx.st45 (R.Bx.new wr z13 47) rfl cl dd gg)
      clear hcl hrg hdd hgg
      go_upto_region 8 with (first | ((with_reducible refine R.ld_arm HLd3.out ?_ ?_); (· rfl)) | ((with_reducible refine st_arm HS3.out ?_ ?_ ?_); (· rfl); (· rfl)))
      obtain ⟨u1, hu1⟩ : ∃ u1, u1 = (wr.alloc (Obj.cells z13.toArray 47)).setCells wr.heap.size 0 (R.cC cl dd gg) := ⟨_, rfl⟩
      have hx1 : R.Bx u1 wr.heap.size (R.cC cl dd gg) := by rw [hu1]; exact R.Bx.set (R.Bx.new wr z13 47) rfl
      have hb1 : Below wr.heap.size wr u1 := by rw [hu1]; exact But.below (below1 _ _) (R.setCells_but (S := (· = wr.heap.size)) rfl _ 0 (But.refl _ _)) (fun k e => by omega)
      rw [← hu1]
      have HLd4 := hid (ldC hx1)
      have HU1 := hid hb1
      obtain ⟨q, hq⟩ : ∃ q, q = stL h.p pl0 (C.take i) := ⟨_, rfl⟩
      obtain ⟨r, hr⟩ : ∃ r, r = pDo h.p q cl := ⟨_, rfl⟩
      have HDo : Hid (Calls Try.prog 10 #[.pointer (some ⟨h.g, 0, none⟩), .agg (R.cC cl dd gg).toArray] u1 (DoP u1 { h with bo := bo, bl := bl } M r)) := by
        obtain ⟨Es, Ls, k⟩ := HR.out.md
        unfold Hid
        rw [hr, hq]
        exact do_any (k.later hb1) HR.out.fit HCm2.out (HIs.out.later (below_call HR.out.bel hb1))
      have HRr : Hid (r = pDo h.p (stL h.p pl0 (C.take i)) cl) := by unfold Hid; rw [hr, hq]
      clear hu1 hx1 hb1 hq hr
      go_upto_region 9 with (first | ((with_reducible refine R.ld_arm HLd4.out ?_ ?_); (· rfl)) | (go_at_call 10; refine HDo.out.mono ?_; rintro e u2 ⟨a2, n2, c2, bo2, bl2, N2, rfl, hO, hm, hg, hn, ha⟩; obtain ⟨a3, c3, w3, hrun, hstep⟩ := HR.out.step HCl.out HU1.out HIs.out HRr.out hO hm hg hn ha (run_size hlt HNl.out); have HRUN := hid hrun; have HStep := hid hstep; clear hO hm hg hn ha hrun hstep) | (at_builtin; refine wpList_append_known rfl _ _ 27 rfl _ _ rfl rfl _ w3 HRUN.out ?_))
      have hfin : RunRel w h C nl (.slice a3 (i + 1) c3) (.int .i64 ((i + 1 : Nat) : Int)) w3 := ⟨i + 1, a3, c3, _, _, _, _, rfl, rfl, hlt, HStep.out⟩
      have HF := hid hfin
      clear hfin
      go_wp2
      exact ⟨HF.out, by simp [S.ivN]; omega⟩
    · obtain rfl : i = nl := by omega
      have hd : decide ((i : Int) < (i : Int)) = false := by simp
      have hfin : RunOut w (c.pm n (fun j => D.cutN (f j) c.W)) C i (.returned (.tuple #[.slice ai i ci, .int .i64 0])) wr := ⟨ai, ci, X, rfl, HR.out.bag, by rw [HR.out.rep, HPm.out, List.take_of_length_le (by have := HLen.out; omega)], HR.out.bel⟩
      have HF := hid hfin
      clear hfin
      go_wp2
      exact bodyPost_ret (v := .tuple #[.slice ai i ci, .int .i64 0]) (by simp [results, Try.results6, go_sem]) rfl HF.out
end
end Go.Proofs.Ytffmodpgddecnaa.V.E
namespace Go.Proofs.Ytffmodpgddecnaa.V.E
open Go.RowKit Go.Maps Go.Sort Go.Shelf
open Go.Proofs.Ytffmodpgddecnaa.H (B64 Cp)
open Go.Proofs.Ytffmodpgddecnaa.S (hr sortedA sortsA)
set_option linter.unusedVariables false
set_option linter.unusedSimpArgs false
theorem sorted_keys {l : List Int} (h : l.Pairwise (· < ·)) : l.mergeSort leI = l := by
  refine List.mergeSort_of_pairwise ?_
  rw [List.pairwise_iff_getElem] at h ⊢
  intro i j hi hj hij
  have := h i j hi hj hij
  simp only [leI, decide_eq_true_eq]
  omega
def keysO_ren : Go.Shelf.Ren := ⟨fun | 7 => 44 | 10 => 65 | n => n, fun | 23 => 67 | 26 => 3 | 3 => 80 | 28 => 97 | 0 => 0 | 27 => 96 | 33 => 100 | 4 => 4 | n => n, fun | n => n⟩
theorem keysO : SlLaysZI.n7 Try.prog keysO_ren where
  mixed := by kernel_rfl
  f7 := ⟨ "maps.Keys[map[int]sesame/plain.object,int,sesame/plain.object]", by decide, Try.func44.trans (congrArg some (by kernel_rfl))⟩
  f10 := ⟨ "maps.Keys[map[int]sesame/plain.object,int,sesame/plain.object]$1", by decide, Try.func65.trans (congrArg some (by kernel_rfl))⟩
  t0 := Try.underlying0
  a0 := Try.isAgg0
  z0 := Try.sizeOf0
  v0 := Try.zeroValue0
  t4 := Try.underlying4
  a4 := Try.isAgg4
  z4 := Try.sizeOf4
  v4 := Try.zeroValue4
  t23 := Try.underlying67
  a23 := Try.isAgg67
  z23 := Try.sizeOf67
  v23 := Try.zeroValue67
  t26 := Try.underlying3
  a26 := Try.isAgg3
  z26 := Try.sizeOf3
  v26 := Try.zeroValue3
  t27 := Try.underlying96
  a27 := Try.isAgg96
  z27 := Try.sizeOf96
  v27 := Try.zeroValue96
  t28 := Try.underlying97
  a28 := Try.isAgg97
  z28 := Try.sizeOf97
  v28 := Try.zeroValue97
  t33 := Try.underlying100
  a33 := Try.isAgg100
  z33 := Try.sizeOf100
  v33 := Try.zeroValue100
set_option maxRecDepth 100000 in
set_option maxHeartbeats 1000000 in
theorem riseO_raw (b nn : Nat) (D0 : DataW Value) (w : World) (hown : w.ownsMap Try.prog 3 hr b nn D0) (hmax : Maps.size D0 ≤ maxLen) (hbytes : Maps.size D0 * 8 ≤ 140737488355328) :
    Calls Try.prog 23 #[.map (some b)] w fun e w' => ∃ (v : Value) (ss : List Int), e = .returned v ∧ ss.Perm (intKeys D0) ∧
      w'.ownsRow w.heap.size 3 1 v ss.length ((ss.mergeSort leI).map encZ) ∧ (v = .slice none 0 0 ↔ ss = []) ∧ Below w.heap.size w w' := by
  refine (callsIn_wide (n := 6)).1 ?_
  have hbl := hown.lt
  have hseq : SeqGives Fence.wide 2 Try.prog 65 #[.pointer (some ⟨w.heap.size, 0, none⟩)] encZ (fun ss => ss.Perm (intKeys D0)) (Maps.size D0) (w.alloc (.cells #[.map (some b)] 67)) :=
    AnyZI.keys_gives (ρ := keysO_ren) { keysO with } Fence.wide _ trivial rfl (by omega) w.heap.size b nn D0 _ (by simp) (by simp) (by
      obtain ⟨es, clock, hb, Ft, hs, hD⟩ := hown
      exact ⟨es, clock, (Below.heap_alloc _ _ b hbl).trans hb, Ft, hs, hD⟩)
  have cK : ∀ mb W, CallsIn Fence.wide 5 Try.prog 44 #[.map mb] W fun e w' => e = .returned (.func (.func 65) #[] #[.pointer (some ⟨W.heap.size, 0, none⟩)]) ∧ w' = W.alloc (.cells #[.map mb] 67) := fun mb W => AnyZI.keys_in keysO Fence.wide 5 trivial rfl mb W
  have cS := AnyZI.sorted_in sortedA Fence.wide 5 trivial trivial trivial trivial rfl (by omega) (sortsA _) (enters_of Try.func64 (by kernel_rfl) rfl) 65 #[.pointer (some ⟨w.heap.size, 0, none⟩)] trivial (enters_of Try.func65 (by kernel_rfl) rfl) _ _ hmax hbytes _ hseq
  change CallsIn _ _ Try.prog 43 _ _ _ at cS
  have hfK : Fence.wide.fn 44 := trivial
  have hfS : Fence.wide.fn 43 := trivial
  clear hseq hown
  refine callsIn_of_wp Try.func23 rfl trivial ?_ rfl
  simp only [Try.ntmps23, List.size_toArray, List.length_cons, List.length_nil, Nat.reduceAdd, Nat.reduceSub, Array.replicate_succ, Array.replicate_zero, List.push_toArray, List.append_toArray, List.nil_append, List.cons_append]
  gi_wp2_with (first
    | (gi_at_call 44; refine (cK _ _).mono ?_; rintro e w' ⟨rfl, rfl⟩)
    | (gi_at_call 43; refine cS.mono ?_; rintro e w' ⟨v, ss, rfl, hS, hrow, hnil, hb⟩))
  go_ret
  exact ⟨v, ss, rfl, hS, own_mono hrow (by simp), hnil, ((Below.refl _ w).alloc (Nat.le_refl _) _).trans (hb.mono (by simp))⟩
theorem riseO_any {b : Nat} {L : List (Int × Value)} {w : World} (k : Mo w b L) (hr : Ris L) (hn : L.length ≤ 1024) :
    Calls Try.prog 23 #[.map (some b)] w fun e w' => ∃ a cap, e = .returned (.slice a L.length cap) ∧ Own w' w.heap.size 3 a L.length cap (ints (L.map Prod.fst)) ∧ Below w.heap.size w w' := by
  refine (riseO_raw b L.length (mapV L) w k (by rw [size_mapV]; unfold maxLen; omega) (by rw [size_mapV]; omega)).mono ?_
  rintro e w' ⟨v, ss, rfl, hS, hrow, hnil, hb⟩
  rw [keys_mapV] at hS
  have hl : ss.length = L.length := by rw [hS.length_eq]; simp
  have hsort : ss.mergeSort leI = L.map Prod.fst := by
    rw [mergeSort_of_perm_i hS]
    refine sorted_keys ?_
    rw [List.pairwise_map]
    exact hr
  rw [hsort, hl] at hrow
  obtain ⟨a, cap, rfl⟩ : ∃ a cap, v = .slice a L.length cap := by
    rcases hrow.2 with ⟨h1, h2⟩ | ⟨g', cap', _, h1, _⟩
    · exact ⟨none, 0, by rw [h1, h2]⟩
    · exact ⟨_, cap', h1⟩
  exact ⟨a, cap, rfl, ⟨hrow, ints_one _⟩, hb⟩
def keysX_ren : Go.Shelf.Ren := ⟨fun | 7 => 45 | 10 => 66 | n => n, fun | 23 => 68 | 26 => 3 | 3 => 63 | 28 => 97 | 0 => 0 | 27 => 96 | 33 => 100 | 4 => 4 | n => n, fun | n => n⟩
theorem keysX : SlLaysZI.n7 Try.prog keysX_ren where
  mixed := by kernel_rfl
  f7 := ⟨ "maps.Keys[map[int][]sesame/api.Cap,int,[]sesame/api.Cap]", by decide, Try.func45.trans (congrArg some (by kernel_rfl))⟩
  f10 := ⟨ "maps.Keys[map[int][]sesame/api.Cap,int,[]sesame/api.Cap]$1", by decide, Try.func66.trans (congrArg some (by kernel_rfl))⟩
  t0 := Try.underlying0
  a0 := Try.isAgg0
  z0 := Try.sizeOf0
  v0 := Try.zeroValue0
  t4 := Try.underlying4
  a4 := Try.isAgg4
  z4 := Try.sizeOf4
  v4 := Try.zeroValue4
  t23 := Try.underlying68
  a23 := Try.isAgg68
  z23 := Try.sizeOf68
  v23 := Try.zeroValue68
  t26 := Try.underlying3
  a26 := Try.isAgg3
  z26 := Try.sizeOf3
  v26 := Try.zeroValue3
  t27 := Try.underlying96
  a27 := Try.isAgg96
  z27 := Try.sizeOf96
  v27 := Try.zeroValue96
  t28 := Try.underlying97
  a28 := Try.isAgg97
  z28 := Try.sizeOf97
  v28 := Try.zeroValue97
  t33 := Try.underlying100
  a33 := Try.isAgg100
  z33 := Try.sizeOf100
  v33 := Try.zeroValue100
set_option maxRecDepth 100000 in
set_option maxHeartbeats 1000000 in
theorem riseX_raw (b nn : Nat) (D0 : DataW Value) (w : World) (hown : w.ownsMap Try.prog 3 hr b nn D0) (hmax : Maps.size D0 ≤ maxLen) (hbytes : Maps.size D0 * 8 ≤ 140737488355328) :
    Calls Try.prog 25 #[.map (some b)] w fun e w' => ∃ (v : Value) (ss : List Int), e = .returned v ∧ ss.Perm (intKeys D0) ∧
      w'.ownsRow w.heap.size 3 1 v ss.length ((ss.mergeSort leI).map encZ) ∧ (v = .slice none 0 0 ↔ ss = []) ∧ Below w.heap.size w w' := by
  refine (callsIn_wide (n := 6)).1 ?_
  have hbl := hown.lt
  have hseq : SeqGives Fence.wide 2 Try.prog 66 #[.pointer (some ⟨w.heap.size, 0, none⟩)] encZ (fun ss => ss.Perm (intKeys D0)) (Maps.size D0) (w.alloc (.cells #[.map (some b)] 68)) :=
    AnyZI.keys_gives (ρ := keysX_ren) { keysX with } Fence.wide _ trivial rfl (by omega) w.heap.size b nn D0 _ (by simp) (by simp) (by
      obtain ⟨es, clock, hb, Ft, hs, hD⟩ := hown
      exact ⟨es, clock, (Below.heap_alloc _ _ b hbl).trans hb, Ft, hs, hD⟩)
  have cK : ∀ mb W, CallsIn Fence.wide 5 Try.prog 45 #[.map mb] W fun e w' => e = .returned (.func (.func 66) #[] #[.pointer (some ⟨W.heap.size, 0, none⟩)]) ∧ w' = W.alloc (.cells #[.map mb] 68) := fun mb W => AnyZI.keys_in keysX Fence.wide 5 trivial rfl mb W
  have cS := AnyZI.sorted_in sortedA Fence.wide 5 trivial trivial trivial trivial rfl (by omega) (sortsA _) (enters_of Try.func64 (by kernel_rfl) rfl) 66 #[.pointer (some ⟨w.heap.size, 0, none⟩)] trivial (enters_of Try.func66 (by kernel_rfl) rfl) _ _ hmax hbytes _ hseq
  change CallsIn _ _ Try.prog 43 _ _ _ at cS
  have hfK : Fence.wide.fn 45 := trivial
  have hfS : Fence.wide.fn 43 := trivial
  clear hseq hown
  refine callsIn_of_wp Try.func25 rfl trivial ?_ rfl
  simp only [Try.ntmps25, List.size_toArray, List.length_cons, List.length_nil, Nat.reduceAdd, Nat.reduceSub, Array.replicate_succ, Array.replicate_zero, List.push_toArray, List.append_toArray, List.nil_append, List.cons_append]
  gi_wp2_with (first
    | (gi_at_call 45; refine (cK _ _).mono ?_; rintro e w' ⟨rfl, rfl⟩)
    | (gi_at_call 43; refine cS.mono ?_; rintro e w' ⟨v, ss, rfl, hS, hrow, hnil, hb⟩))
  go_ret
  exact ⟨v, ss, rfl, hS, own_mono hrow (by simp), hnil, ((Below.refl _ w).alloc (Nat.le_refl _) _).trans (hb.mono (by simp))⟩
theorem riseX_any {b : Nat} {L : List (Int × Value)} {w : World} (k : Mo w b L) (hr : Ris L) (hn : L.length ≤ 1024) :
    Calls Try.prog 25 #[.map (some b)] w fun e w' => ∃ a cap, e = .returned (.slice a L.length cap) ∧ Own w' w.heap.size 3 a L.length cap (ints (L.map Prod.fst)) ∧ Below w.heap.size w w' := by
  refine (riseX_raw b L.length (mapV L) w k (by rw [size_mapV]; unfold maxLen; omega) (by rw [size_mapV]; omega)).mono ?_
  rintro e w' ⟨v, ss, rfl, hS, hrow, hnil, hb⟩
  rw [keys_mapV] at hS
  have hl : ss.length = L.length := by rw [hS.length_eq]; simp
  have hsort : ss.mergeSort leI = L.map Prod.fst := by
    rw [mergeSort_of_perm_i hS]
    refine sorted_keys ?_
    rw [List.pairwise_map]
    exact hr
  rw [hsort, hl] at hrow
  obtain ⟨a, cap, rfl⟩ : ∃ a cap, v = .slice a L.length cap := by
    rcases hrow.2 with ⟨h1, h2⟩ | ⟨g', cap', _, h1, _⟩
    · exact ⟨none, 0, by rw [h1, h2]⟩
    · exact ⟨_, cap', h1⟩
  exact ⟨a, cap, rfl, ⟨hrow, ints_one _⟩, hb⟩
end Go.Proofs.Ytffmodpgddecnaa.V.E
namespace Go.Proofs.Ytffmodpgddecnaa.V.E
open Go.RowKit Go.Maps
open Go.Proofs.Ytffmodpgddecnaa.H (B64 Cp)
set_option linter.unusedVariables false
set_option linter.unusedSimpArgs false
def kE (ty k : Nat) : Kd Ev := ⟨Ev.c, fun w b o => Ow w b ty k o.a o.len o.cap o.vs, fun o j => Blk o.a j⟩
theorem kE_ok (ty k : Nat) : KdOk (kE ty k) 2 where
  len := fun x => rfl
  one := fun x u hu => by
    simp only [kE, Ev.c, List.mem_cons, List.not_mem_nil, or_false] at hu
    rcases hu with h | h <;> (rw [h]; rfl)
  but := fun h hb hn => Ow.but h hb hn
  mono := fun h hb => Ow.mono h hb
  rng := fun h j hj => Ow.blk h j hj
section
variable {w w' U U' : World} {base E ty k : Nat} {a : Option Addr} {n cap : Nat} {Q : List Ev}
theorem two_bag (h : Two w base E ty k a n cap Q) : Bag (kE ty k) w base E 2 a n cap Q := ⟨h.row, h.len, h.each, h.ap, h.top⟩
theorem Bag.two (h : Bag (kE ty k) w base E 2 a n cap Q) : Two w base E ty k a n cap Q := ⟨h.row, h.len, h.each, h.ap, h.top⟩
end
structure Sg (w U : World) (b : Nat) (p : Ps) (a1 : Option Addr) (c1 : Nat) (Q1 : List Ev) (a2 : Option Addr) (c2 : Nat) (a3 : Option Addr) (c3 : Nat) (Q3 : List Ev) : Prop where
  bx : R.Bx U b (stM a1 p.O.length c1 a2 p.T.length c2 a3 p.P.length c3 p.nx p.px p.t)
  tl : Tells U w.heap.size p a1 c1 Q1 a2 c2 a3 c3 Q3
  nb : ∀ j, (Two.B a1 Q1 j ∨ Blk a2 j ∨ Two.B a3 Q3 j) → j ≠ b
  bel : But (· = b) w U
section
variable {w U U1 U2 : World} {b : Nat} {p : Ps} {a1 : Option Addr} {c1 : Nat} {Q1 : List Ev} {a2 : Option Addr} {c2 : Nat} {a3 : Option Addr} {c3 : Nat} {Q3 : List Ev}
theorem Sg.later (k : Sg w U b p a1 c1 Q1 a2 c2 a3 c3 Q3) (hb : Below U.heap.size U U1) : Sg w U1 b p a1 c1 Q1 a2 c2 a3 c3 Q3 :=
  ⟨R.Bx.later hb k.bx, k.tl.later hb, k.nb, k.bel.call hb⟩
theorem Sg.c0 (k : Sg w U b p a1 c1 Q1 a2 c2 a3 c3 Q3) : U.cell? ⟨b, 0, none⟩ = some (.slice a1 p.O.length c1) := k.bx.cell 0 rfl
theorem Sg.c1_ (k : Sg w U b p a1 c1 Q1 a2 c2 a3 c3 Q3) : U.cell? ⟨b, 1, none⟩ = some (.slice a2 p.T.length c2) := k.bx.cell 1 rfl
theorem Sg.c2_ (k : Sg w U b p a1 c1 Q1 a2 c2 a3 c3 Q3) : U.cell? ⟨b, 2, none⟩ = some (.slice a3 p.P.length c3) := k.bx.cell 2 rfl
theorem Sg.fz (k : Sg w U b p a1 c1 Q1 a2 c2 a3 c3 Q3) (j : Nat) (hj : j < 6) : U.frozen? ⟨b, j, none⟩ = false := Bx.fz k.bx j (by simpa [stM] using hj)
theorem Sg.blt (k : Sg w U b p a1 c1 Q1 a2 c2 a3 c3 Q3) : b < U.heap.size := World.block_lt_of_cell? _ _ k.c0
theorem Sg.addO (k : Sg w U b p a1 c1 Q1 a2 c2 a3 c3 Q3) (hb : Below U.heap.size U U1) {id : Int} {B : List Nat} {ab : Option Addr} {cb : Nat} (ho : Ow U1 U.heap.size 5 1 ab B.length cb (S.u8s B)) (hn : p.O.length ≤ 2048) :
    ∃ a' c' w3, (Builtin.append_ #[52, 52] 52 #[.slice a1 p.O.length c1, .slice (some ⟨U1.heap.size, 0, none⟩) 1 1]).run Try.prog (U1.alloc (Obj.cells #[.int .i64 id, .slice ab B.length cb] 60)) = .ok (.slice a' (p.O.length + 1) c') w3 ∧ w3.frozen? ⟨b, 0, none⟩ = false ∧ w3.cell? ⟨b, 0, none⟩ = some (.slice a1 p.O.length c1) ∧ But (Blk a1) U1 w3 ∧
      Sg w (w3.setCell ⟨b, 0, none⟩ (.slice a' (p.O.length + 1) c')) b { p with O := p.O ++ [(id, B)] } a' c' (Q1 ++ [⟨id, S.u8s B, B.length, ab, cb⟩]) a2 c2 a3 c3 Q3 := by
  have k1 := k.later hb
  have hU : w.heap.size ≤ U.heap.size := k.bel.size
  have hs := Bag.snoc (kE_ok 5 1) 52 _ 32 Try.underlying52 info63 rfl (by omega) (by omega) (two_bag k1.tl.os) (Nat.le_trans hU hb.size) (⟨id, S.u8s B, B.length, ab, cb⟩ : Ev) (Ow.mono ho hU) (fun j hj hj2 => by
    have h1 := (Ow.blk ho j hj).1
    have h2 := ((two_bag k.tl.os).rng (kE_ok 5 1) j hj2).2
    omega) (by omega)
  obtain ⟨a', c', w3, hrun, hbag, hB3, hon⟩ := hs
  have hx3 : R.Bx w3 b _ := R.Bx.but hB3 k1.bx (fun e => k1.nb b (.inl (.inl e)) rfl)
  have hrng : ∀ j, Two.B a1 Q1 j ∨ Blk a2 j ∨ Two.B a3 Q3 j → j < U.heap.size := fun j hj => by
    rcases hj with hj | hj | hj
    · exact (k.tl.os.blk j hj).2
    · exact (k.tl.ts.blk j hj).2
    · exact (k.tl.ps.blk j hj).2
  have hnew : ∀ j, Two.B a' (Q1 ++ [⟨id, S.u8s B, B.length, ab, cb⟩]) j → Two.B a1 Q1 j ∨ U.heap.size ≤ j := fun j hj => by
    rcases hj with hj | ⟨o, ho2, hj⟩
    · rcases hon j hj with h1 | h1
      · exact .inl (.inl h1)
      · exact .inr (Nat.le_trans hb.size h1)
    · rcases List.mem_append.1 ho2 with h1 | h1
      · exact .inl (.inr ⟨o, h1, hj⟩)
      · rw [List.mem_singleton.1 h1] at hj
        exact .inr (Ow.blk ho j hj).1
  have hbb : b < U.heap.size := k.blt
  have hbs : But (· = b) w3 (w3.setCell ⟨b, 0, none⟩ (.slice a' (p.O.length + 1) c')) := (But.refl (fun x => x = b) w3).setCell (p := ⟨b, 0, none⟩) rfl _
  have hnb2 : ∀ j, (Two.B a' (Q1 ++ [⟨id, S.u8s B, B.length, ab, cb⟩]) j ∨ Blk a2 j ∨ Two.B a3 Q3 j) → j ≠ b := fun j hj => by
    rcases hj with hj | hj
    · rcases hnew j hj with h1 | h1
      · exact k.nb j (.inl h1)
      · omega
    · exact k.nb j (.inr hj)
  refine ⟨a', c', w3, hrun, Bx.fz hx3 0 (by simp [stM]), hx3.cell 0 rfl, hB3, ?_, ⟨hbag.two.but hbs (fun j hj e => hnb2 j (.inl hj) e) |> fun t => (by simpa using t), by simp [k.tl.ok, Ev.key, obK], ?_, ?_, k.tl.pk, ?_, ?_, k.tl.s23⟩, hnb2, ?_⟩
  · have := Bx.put hx3 0 (by simp [stM]) (.slice a' (p.O.length + 1) c')
    simpa [stM] using this
  · exact (k1.tl.ts.but hB3 (fun j hj e => k.tl.s12 j (.inl e) hj)).but hbs (fun j hj e => k.nb j (.inr (.inl hj)) e)
  · exact (k1.tl.ps.but hB3 (fun j hj e => k.tl.s13 j (.inl e) hj)).but hbs (fun j hj e => k.nb j (.inr (.inr hj)) e)
  · intro j hj hj2
    rcases hnew j hj with h1 | h1
    · exact k.tl.s12 j h1 hj2
    · have := hrng j (.inr (.inl hj2)); omega
  · intro j hj hj2
    rcases hnew j hj with h1 | h1
    · exact k.tl.s13 j h1 hj2
    · have := hrng j (.inr (.inr hj2)); omega
  · exact (k1.bel.comp hB3 (fun j hj => .inr (k.tl.os.blk j (.inl hj)).1)).comp hbs (fun j e => .inl e)
theorem Sg.addT (k : Sg w U b p a1 c1 Q1 a2 c2 a3 c3 Q3) {L : List Tok} {a' : Option Addr} {c' : Nat} (hO : Ow U2 w.heap.size 62 5 a' L.length c' (toks L)) (hG : Gr a2 a' U U2) :
    U2.frozen? ⟨b, 1, none⟩ = false ∧ U2.cell? ⟨b, 1, none⟩ = some (.slice a2 p.T.length c2) ∧ Sg w (U2.setCell ⟨b, 1, none⟩ (.slice a' L.length c')) b { p with T := L } a1 c1 Q1 a' c' a3 c3 Q3 := by
  have hx3 : R.Bx U2 b _ := R.Bx.but hG.but k.bx (fun e => k.nb b (.inr (.inl e)) rfl)
  have hrng : ∀ j, Two.B a1 Q1 j ∨ Blk a2 j ∨ Two.B a3 Q3 j → j < U.heap.size := fun j hj => by
    rcases hj with hj | hj | hj
    · exact (k.tl.os.blk j hj).2
    · exact (k.tl.ts.blk j hj).2
    · exact (k.tl.ps.blk j hj).2
  have hbb : b < U.heap.size := k.blt
  have hbs : But (· = b) U2 (U2.setCell ⟨b, 1, none⟩ (.slice a' L.length c')) := (But.refl (fun x => x = b) U2).setCell (p := ⟨b, 1, none⟩) rfl _
  have hnb2 : ∀ j, (Two.B a1 Q1 j ∨ Blk a' j ∨ Two.B a3 Q3 j) → j ≠ b := fun j hj => by
    rcases hj with hj | hj | hj
    · exact k.nb j (.inl hj)
    · rcases hG.on j hj with h1 | h1
      · exact k.nb j (.inr (.inl h1))
      · omega
    · exact k.nb j (.inr (.inr hj))
  refine ⟨Bx.fz hx3 1 (by simp [stM]), hx3.cell 1 rfl, ?_, ⟨(k.tl.os.but hG.but (fun j hj e => k.tl.s12 j hj e)).but hbs (fun j hj e => hnb2 j (.inl hj) e), k.tl.ok, hO.but hbs (fun j hj e => hnb2 j (.inr (.inl hj)) e), (k.tl.ps.but hG.but (fun j hj e => k.tl.s23 j e hj)).but hbs (fun j hj e => hnb2 j (.inr (.inr hj)) e), k.tl.pk, ?_, k.tl.s13, ?_⟩, hnb2, ?_⟩
  · have := Bx.put hx3 1 (by simp [stM]) (.slice a' L.length c')
    simpa [stM] using this
  · intro j hj hj2
    rcases hG.on j hj2 with h1 | h1
    · exact k.tl.s12 j hj h1
    · have := hrng j (.inl hj); omega
  · intro j hj hj2
    rcases hG.on j hj with h1 | h1
    · exact k.tl.s23 j h1 hj2
    · have := hrng j (.inr (.inr hj2)); omega
  · exact (k.bel.comp hG.but (fun j hj => .inr (k.tl.ts.blk j hj).1)).comp hbs (fun j e => .inl e)
theorem Sg.addP (k : Sg w U b p a1 c1 Q1 a2 c2 a3 c3 Q3) (hb : Below U.heap.size U U1) {id : Int} {B : List Cp} {ab : Option Addr} {cb : Nat} (ho : Ow U1 U.heap.size 40 3 ab B.length cb (caps B)) (hn : p.P.length ≤ 2048) :
    ∃ a' c' w3, (Builtin.append_ #[54, 54] 54 #[.slice a3 p.P.length c3, .slice (some ⟨U1.heap.size, 0, none⟩) 1 1]).run Try.prog (U1.alloc (Obj.cells #[.int .i64 id, .slice ab B.length cb] 65)) = .ok (.slice a' (p.P.length + 1) c') w3 ∧ w3.frozen? ⟨b, 2, none⟩ = false ∧ w3.cell? ⟨b, 2, none⟩ = some (.slice a3 p.P.length c3) ∧ But (Blk a3) U1 w3 ∧
      Sg w (w3.setCell ⟨b, 2, none⟩ (.slice a' (p.P.length + 1) c')) b { p with P := p.P ++ [(id, B)] } a1 c1 Q1 a2 c2 a' c' (Q3 ++ [⟨id, caps B, B.length, ab, cb⟩]) ∧ (∀ j, Two.B a' (Q3 ++ [⟨id, caps B, B.length, ab, cb⟩]) j → Two.B a3 Q3 j ∨ U.heap.size ≤ j) := by
  have k1 := k.later hb
  have hU : w.heap.size ≤ U.heap.size := k.bel.size
  have hs := Bag.snoc (kE_ok 40 3) 54 _ 32 Try.underlying54 info59 rfl (by omega) (by omega) (two_bag k1.tl.ps) (Nat.le_trans hU hb.size) (⟨id, caps B, B.length, ab, cb⟩ : Ev) (Ow.mono ho hU) (fun j hj hj2 => by
    have h1 := (Ow.blk ho j hj).1
    have h2 := ((two_bag k.tl.ps).rng (kE_ok 40 3) j hj2).2
    omega) (by omega)
  obtain ⟨a', c', w3, hrun, hbag, hB3, hon⟩ := hs
  have hx3 : R.Bx w3 b _ := R.Bx.but hB3 k1.bx (fun e => k1.nb b (.inr (.inr (.inl e))) rfl)
  have hrng : ∀ j, Two.B a1 Q1 j ∨ Blk a2 j ∨ Two.B a3 Q3 j → j < U.heap.size := fun j hj => by
    rcases hj with hj | hj | hj
    · exact (k.tl.os.blk j hj).2
    · exact (k.tl.ts.blk j hj).2
    · exact (k.tl.ps.blk j hj).2
  have hnew : ∀ j, Two.B a' (Q3 ++ [⟨id, caps B, B.length, ab, cb⟩]) j → Two.B a3 Q3 j ∨ U.heap.size ≤ j := fun j hj => by
    rcases hj with hj | ⟨o, ho2, hj⟩
    · rcases hon j hj with h1 | h1
      · exact .inl (.inl h1)
      · exact .inr (Nat.le_trans hb.size h1)
    · rcases List.mem_append.1 ho2 with h1 | h1
      · exact .inl (.inr ⟨o, h1, hj⟩)
      · rw [List.mem_singleton.1 h1] at hj
        exact .inr (Ow.blk ho j hj).1
  have hbb : b < U.heap.size := k.blt
  have hbs : But (· = b) w3 (w3.setCell ⟨b, 2, none⟩ (.slice a' (p.P.length + 1) c')) := (But.refl (fun x => x = b) w3).setCell (p := ⟨b, 2, none⟩) rfl _
  have hnb2 : ∀ j, (Two.B a1 Q1 j ∨ Blk a2 j ∨ Two.B a' (Q3 ++ [⟨id, caps B, B.length, ab, cb⟩]) j) → j ≠ b := fun j hj => by
    rcases hj with hj | hj | hj
    · exact k.nb j (.inl hj)
    · exact k.nb j (.inr (.inl hj))
    · rcases hnew j hj with h1 | h1
      · exact k.nb j (.inr (.inr h1))
      · omega
  refine ⟨a', c', w3, hrun, Bx.fz hx3 2 (by simp [stM]), hx3.cell 2 rfl, hB3, ⟨?_, ⟨(k1.tl.os.but hB3 (fun j hj e => k.tl.s13 j hj (.inl e))).but hbs (fun j hj e => k.nb j (.inl hj) e), k.tl.ok, (k1.tl.ts.but hB3 (fun j hj e => k.tl.s23 j hj (.inl e))).but hbs (fun j hj e => k.nb j (.inr (.inl hj)) e), hbag.two.but hbs (fun j hj e => hnb2 j (.inr (.inr hj)) e) |> fun t => (by simpa using t), by simp [k.tl.pk, Ev.key, plK], k.tl.s12, ?_, ?_⟩, hnb2, ?_⟩, hnew⟩
  · have := Bx.put hx3 2 (by simp [stM]) (.slice a' (p.P.length + 1) c')
    simpa [stM] using this
  · intro j hj hj2
    rcases hnew j hj2 with h1 | h1
    · exact k.tl.s13 j hj h1
    · have := hrng j (.inl hj); omega
  · intro j hj hj2
    rcases hnew j hj2 with h1 | h1
    · exact k.tl.s23 j hj h1
    · have := hrng j (.inr (.inl hj)); omega
  · exact (k1.bel.comp hB3 (fun j hj => .inr (k.tl.ps.blk j (.inl hj)).1)).comp hbs (fun j e => .inl e)
theorem ldSt {n1 n2 n3 : Nat} {x y z : Int} {b : Nat} (h : R.Bx U b (stM a1 n1 c1 a2 n2 c2 a3 n3 c3 x y z)) : (Instr.loadAt 56 (.pointer (some ⟨b, 0, none⟩))).run Try.prog U = .ok (stV a1 n1 c1 a2 n2 c2 a3 n3 c3 x y z) U := by
  have := run_loadVar_mid (P := Try.prog) U b 0 56 (stM a1 n1 c1 a2 n2 c2 a3 n3 c3 x y z) _ h.range Try.underlying56 rfl (by rw [info53]; rfl)
  simp [Instr.loadAt, Instr.sureAddr, this, stM]
end
end Go.Proofs.Ytffmodpgddecnaa.V.E
