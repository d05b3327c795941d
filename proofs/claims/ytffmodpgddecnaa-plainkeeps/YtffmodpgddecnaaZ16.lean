import Derived.Test.YtffmodpgddecnaaZ15
import Derived.Test.YtffmodpgddecnaaZ08
namespace Go.Proofs.Ytffmodpgddecnaa.V.E
open Go.RowKit Go.Maps
open Go.Proofs.Ytffmodpgddecnaa.H (B64 Cp)
set_option linter.unusedVariables false
set_option linter.unusedSimpArgs false
section
variable {w w' V w2 W w1 : World} {h : Hm} {q x : Pl} {N N' : Nat → Prop} {Es : List En} {Ls : List Ln} {c : R.Cl} {dd gg : R.Sl}
theorem did_out {b : Nat} {rr : Rep × Pl} {e1 : Ending} (k0 : Md w h q N Es Ls) (hB : Below w.heap.size w W) (hb : w.heap.size ≤ b) (hbW : b < W.heap.size) (kd : DidP W h N rr e1 w1) : ∃ a n c, e1 = .returned (rpV rr.1 a n c) ∧ But h.B W w1 ∧ DidP w h N rr (.returned (rpV rr.1 a n c)) (w1.setCells b 0 (rpL rr.1 a n c)) := by
  obtain ⟨a, n, c, N', he, hO, ⟨Es', Ls', hM⟩, hw, hn⟩ := kd
  have g1 := k0.glt
  have g2 := k0.olt
  have g3 := k0.llt
  have hnb : ¬ N' b := fun e => by
    rcases hw.2 _ e with h1 | h1
    · exact k0.new hb h1
    · omega
  have hf := did_fin hM ((WentP.later (N := N) (h := h) hB).trans hw) hb hnb ⟨by omega, by omega, by omega⟩ (rpL rr.1 a n c)
  have hb9 : But (· = b) w1 (w1.setCells b 0 (rpL rr.1 a n c)) := R.setCells_but (S := (· = b)) rfl _ 0 (But.refl _ _)
  exact ⟨a, n, c, he, hw.1, a, n, c, N', rfl, (Own.but hb9 hO (fun j hj e => by have := hO.blk j hj; omega)).mono hB.size, ⟨_, _, hf.1⟩, hf.2, hn⟩
structure Att (c : R.Cl) (dd gg : R.Sl) : Prop where
  ob : S.i64ok c.obj
  by_ : S.i64ok c.by_
  op : 1 ≤ c.op ∧ c.op ≤ 10
  dl : dd.n ≤ 65536
  ix : 0 ≤ c.index ∧ c.index ≤ 65535
  gl : gg.n ≤ 255
  gp : ∀ g ∈ c.gifts, 0 ≤ g
set_option maxRecDepth 100000 in
set_option maxHeartbeats 4000000 in
theorem attempt_any (k : Md w h q N Es Ls) (hf : Fit h.p q) (hcf : h.cf.may = true) (hi : R.Is w c dd gg) (ha : Att c dd gg) (hh : haX q.X c.by_ = true) : Calls Try.prog 21 #[.pointer (some ⟨h.g, 0, none⟩), .agg (R.cC c dd gg).toArray] w (DidP w h N (pDeed h.p q c)) := by
  obtain ⟨hob, hby, hop, hdl, hix, hgl, hgp⟩ := ha
  obtain ⟨W, hW⟩ : ∃ W, W = (w.alloc (Obj.cells (R.cC c dd gg).toArray 47)).alloc z6 := ⟨_, rfl⟩
  have hB : Below w.heap.size w W := by rw [hW]; exact below2 _ _ _
  have hX : R.Bx W w.heap.size (R.cC c dd gg) := by rw [hW]; exact R.Bx.later (below1 _ _) (R.Bx.new w (R.cC c dd gg) 47)
  have hZ : Zr W (w.heap.size + 1) := by rw [hW]; have := Zr.new (w.alloc (Obj.cells (R.cC c dd gg).toArray 47)); simpa using this
  have k1 := k.later hB
  have hi1 := hi.later hB
  have HLd := hid (ldC hX)
  have x0 := hX.cell 0 rfl
  have x1 := hX.cell 1 rfl
  have x2 := hX.cell 2 rfl
  have x3 := hX.cell 3 rfl
  have x4 := hX.cell 4 rfl
  have x5 := hX.cell 5 rfl
  have x7 := hX.cell 7 rfl
  have x11 := hX.cell 11 rfl
  have x12 := hX.cell 12 rfl
  have hbW : w.heap.size + 1 < W.heap.size := hZ.lt
  have hnB : ¬ h.B (w.heap.size + 1) := fun e => by
    have g1 := k.glt
    have g2 := k.olt
    have g3 := k.llt
    rcases e with e | e | e <;> omega
  have HK0 := hid k
  have HB := hid hB
  have HW := hid hW
  have HZ := hid hZ
  have HNB := hid hnB
  obtain ⟨rr, hR⟩ : ∃ rr, rr = pDeed h.p q c := ⟨_, rfl⟩
  rw [← hR]
  unfold pDeed at hR
  clear hB hX hZ hW hnB
  have hcs : c.op = 1 ∨ c.op = 2 ∨ c.op = 3 ∨ c.op = 4 ∨ c.op = 5 ∨ c.op = 6 ∨ c.op = 7 ∨ c.op = 8 ∨ c.op = 9 ∨ c.op = 10 := by omega
  rcases hcs with hk | hcs
  · rw [hk] at x0 hR
    rw [if_pos rfl] at hR
    have HD := hid (create_any k1 hf hcf c.size)
    rw [← hR] at HD
    clear hR hk k k1 hi hi1 hf hcf hh hob hby hop hdl hix hgl hgp
    go_enter Try.func21, Try.ntmps21
    go_upto_region 1 with fail
    rw [← HW.out]
    go_wp2_with (first | ((with_reducible refine R.ld_arm HLd.out ?_ ?_); (· rfl)) | (go_at_call 33; refine HD.out.mono ?_; intro e1 w1 hd1; obtain ⟨a9, n9, c9, rfl, hbt, hfin⟩ := did_out HK0.out HB.out (Nat.le_succ _) hbW hd1; have HZ9 := hid (HZ.out.but hbt HNB.out); have HS9 := hid (HZ9.out.st rr.1 a9 n9 c9); have HL9 := hid (HZ9.out.lv rr.1 a9 n9 c9); have HFin := hid hfin; clear hd1 hbt hfin) | ((with_reducible refine st_arm HS9.out ?_ ?_ ?_); (· rfl); (· rfl)))
    exact bodyPost_ret (v := rpV rr.1 a9 n9 c9) (by simp [results, Try.results21, asAddr, HL9.out]) rfl HFin.out
  rcases hcs with hk | hcs
  · rw [hk] at x0 hR
    rw [if_neg (by decide)] at hR
    rw [if_pos rfl] at hR
    have HD := hid (destroy_any k1 hf (cpO c) hob)
    rw [← hR] at HD
    unfold cpO cV at HD
    simp only at HD
    clear hR hk k k1 hi hi1 hf hcf hh hob hby hop hdl hix hgl hgp
    go_enter Try.func21, Try.ntmps21
    go_upto_region 1 with fail
    rw [← HW.out]
    go_wp2_with (first | ((with_reducible refine R.ld_arm HLd.out ?_ ?_); (· rfl)) | (go_at_call 34; refine HD.out.mono ?_; intro e1 w1 hd1; obtain ⟨a9, n9, c9, rfl, hbt, hfin⟩ := did_out HK0.out HB.out (Nat.le_succ _) hbW hd1; have HZ9 := hid (HZ.out.but hbt HNB.out); have HS9 := hid (HZ9.out.st rr.1 a9 n9 c9); have HL9 := hid (HZ9.out.lv rr.1 a9 n9 c9); have HFin := hid hfin; clear hd1 hbt hfin) | ((with_reducible refine st_arm HS9.out ?_ ?_ ?_); (· rfl); (· rfl)))
    exact bodyPost_ret (v := rpV rr.1 a9 n9 c9) (by simp [results, Try.results21, asAddr, HL9.out]) rfl HFin.out
  rcases hcs with hk | hcs
  · rw [hk] at x0 hR
    rw [if_neg (by decide)] at hR
    rw [if_neg (by decide)] at hR
    rw [if_pos rfl] at hR
    have HD := hid (derive_any k1 hf hcf (cpO c) c.rights hob)
    rw [← hR] at HD
    unfold cpO cV at HD
    simp only at HD
    clear hR hk k k1 hi hi1 hf hcf hh hob hby hop hdl hix hgl hgp
    go_enter Try.func21, Try.ntmps21
    go_upto_region 1 with fail
    rw [← HW.out]
    go_wp2_with (first | ((with_reducible refine R.ld_arm HLd.out ?_ ?_); (· rfl)) | (go_at_call 35; refine HD.out.mono ?_; intro e1 w1 hd1; obtain ⟨a9, n9, c9, rfl, hbt, hfin⟩ := did_out HK0.out HB.out (Nat.le_succ _) hbW hd1; have HZ9 := hid (HZ.out.but hbt HNB.out); have HS9 := hid (HZ9.out.st rr.1 a9 n9 c9); have HL9 := hid (HZ9.out.lv rr.1 a9 n9 c9); have HFin := hid hfin; clear hd1 hbt hfin) | ((with_reducible refine st_arm HS9.out ?_ ?_ ?_); (· rfl); (· rfl)))
    exact bodyPost_ret (v := rpV rr.1 a9 n9 c9) (by simp [results, Try.results21, asAddr, HL9.out]) rfl HFin.out
  rcases hcs with hk | hcs
  · rw [hk] at x0 hR
    rw [if_neg (by decide)] at hR
    rw [if_neg (by decide)] at hR
    rw [if_neg (by decide)] at hR
    rw [if_pos rfl] at hR
    have HD := hid (revoke_any k1 hf (cpO c) hob)
    rw [← hR] at HD
    unfold cpO cV at HD
    simp only at HD
    clear hR hk k k1 hi hi1 hf hcf hh hob hby hop hdl hix hgl hgp
    go_enter Try.func21, Try.ntmps21
    go_upto_region 1 with fail
    rw [← HW.out]
    go_wp2_with (first | ((with_reducible refine R.ld_arm HLd.out ?_ ?_); (· rfl)) | (go_at_call 36; refine HD.out.mono ?_; intro e1 w1 hd1; obtain ⟨a9, n9, c9, rfl, hbt, hfin⟩ := did_out HK0.out HB.out (Nat.le_succ _) hbW hd1; have HZ9 := hid (HZ.out.but hbt HNB.out); have HS9 := hid (HZ9.out.st rr.1 a9 n9 c9); have HL9 := hid (HZ9.out.lv rr.1 a9 n9 c9); have HFin := hid hfin; clear hd1 hbt hfin) | ((with_reducible refine st_arm HS9.out ?_ ?_ ?_); (· rfl); (· rfl)))
    exact bodyPost_ret (v := rpV rr.1 a9 n9 c9) (by simp [results, Try.results21, asAddr, HL9.out]) rfl HFin.out
  rcases hcs with hk | hcs
  · rw [hk] at x0 hR
    rw [if_neg (by decide)] at hR
    rw [if_neg (by decide)] at hR
    rw [if_neg (by decide)] at hR
    rw [if_neg (by decide)] at hR
    rw [if_pos rfl] at hR
    have HD := hid (read_any k1 hf hi1 hob hby)
    rw [← hR] at HD
    clear hR hk k k1 hi hi1 hf hcf hh hob hby hop hdl hix hgl hgp
    go_enter Try.func21, Try.ntmps21
    go_upto_region 1 with fail
    rw [← HW.out]
    go_wp2_with (first | ((with_reducible refine R.ld_arm HLd.out ?_ ?_); (· rfl)) | (go_at_call 37; refine HD.out.mono ?_; intro e1 w1 hd1; obtain ⟨a9, n9, c9, rfl, hbt, hfin⟩ := did_out HK0.out HB.out (Nat.le_succ _) hbW hd1; have HZ9 := hid (HZ.out.but hbt HNB.out); have HS9 := hid (HZ9.out.st rr.1 a9 n9 c9); have HL9 := hid (HZ9.out.lv rr.1 a9 n9 c9); have HFin := hid hfin; clear hd1 hbt hfin) | ((with_reducible refine st_arm HS9.out ?_ ?_ ?_); (· rfl); (· rfl)))
    exact bodyPost_ret (v := rpV rr.1 a9 n9 c9) (by simp [results, Try.results21, asAddr, HL9.out]) rfl HFin.out
  rcases hcs with hk | hcs
  · rw [hk] at x0 hR
    rw [if_neg (by decide)] at hR
    rw [if_neg (by decide)] at hR
    rw [if_neg (by decide)] at hR
    rw [if_neg (by decide)] at hR
    rw [if_neg (by decide)] at hR
    rw [if_pos rfl] at hR
    have HD := hid (write_any k1 hf hi1 hob hby hdl)
    rw [← hR] at HD
    clear hR hk k k1 hi hi1 hf hcf hh hob hby hop hdl hix hgl hgp
    go_enter Try.func21, Try.ntmps21
    go_upto_region 1 with fail
    rw [← HW.out]
    go_wp2_with (first | ((with_reducible refine R.ld_arm HLd.out ?_ ?_); (· rfl)) | (go_at_call 38; refine HD.out.mono ?_; intro e1 w1 hd1; obtain ⟨a9, n9, c9, rfl, hbt, hfin⟩ := did_out HK0.out HB.out (Nat.le_succ _) hbW hd1; have HZ9 := hid (HZ.out.but hbt HNB.out); have HS9 := hid (HZ9.out.st rr.1 a9 n9 c9); have HL9 := hid (HZ9.out.lv rr.1 a9 n9 c9); have HFin := hid hfin; clear hd1 hbt hfin) | ((with_reducible refine st_arm HS9.out ?_ ?_ ?_); (· rfl); (· rfl)))
    exact bodyPost_ret (v := rpV rr.1 a9 n9 c9) (by simp [results, Try.results21, asAddr, HL9.out]) rfl HFin.out
  rcases hcs with hk | hcs
  · rw [hk] at x0 hR
    rw [if_neg (by decide)] at hR
    rw [if_neg (by decide)] at hR
    rw [if_neg (by decide)] at hR
    rw [if_neg (by decide)] at hR
    rw [if_neg (by decide)] at hR
    rw [if_neg (by decide)] at hR
    rw [if_pos rfl] at hR
    have HD := hid (add_any k1 hf hcf c.by_ hby hh (cpO c) ⟨hi.hi, hi.lo⟩)
    rw [← hR] at HD
    unfold cpO cV at HD
    simp only at HD
    clear hR hk k k1 hi hi1 hf hcf hh hob hby hop hdl hix hgl hgp
    go_enter Try.func21, Try.ntmps21
    go_upto_region 1 with fail
    rw [← HW.out]
    go_wp2_with (first | ((with_reducible refine R.ld_arm HLd.out ?_ ?_); (· rfl)) | (go_at_call 39; refine HD.out.mono ?_; intro e1 w1 hd1; obtain ⟨a9, n9, c9, rfl, hbt, hfin⟩ := did_out HK0.out HB.out (Nat.le_succ _) hbW hd1; have HZ9 := hid (HZ.out.but hbt HNB.out); have HS9 := hid (HZ9.out.st rr.1 a9 n9 c9); have HL9 := hid (HZ9.out.lv rr.1 a9 n9 c9); have HFin := hid hfin; clear hd1 hbt hfin) | ((with_reducible refine st_arm HS9.out ?_ ?_ ?_); (· rfl); (· rfl)))
    exact bodyPost_ret (v := rpV rr.1 a9 n9 c9) (by simp [results, Try.results21, asAddr, HL9.out]) rfl HFin.out
  rcases hcs with hk | hcs
  · rw [hk] at x0 hR
    rw [if_neg (by decide)] at hR
    rw [if_neg (by decide)] at hR
    rw [if_neg (by decide)] at hR
    rw [if_neg (by decide)] at hR
    rw [if_neg (by decide)] at hR
    rw [if_neg (by decide)] at hR
    rw [if_neg (by decide)] at hR
    rw [if_pos rfl] at hR
    obtain ⟨ix, hixe⟩ : ∃ ix : Nat, c.index = (ix : Int) := ⟨c.index.toNat, by omega⟩
    have hixn : ix ≤ 65536 := by omega
    rw [hixe] at hR x11
    have HD := hid (remove_any k1 hf c.by_ hby hh ix hixn)
    rw [← hR] at HD
    clear hR hk k k1 hi hi1 hf hcf hh hob hby hop hdl hix hgl hgp
    go_enter Try.func21, Try.ntmps21
    go_upto_region 1 with fail
    rw [← HW.out]
    go_wp2_with (first | ((with_reducible refine R.ld_arm HLd.out ?_ ?_); (· rfl)) | (go_at_call 40; refine HD.out.mono ?_; intro e1 w1 hd1; obtain ⟨a9, n9, c9, rfl, hbt, hfin⟩ := did_out HK0.out HB.out (Nat.le_succ _) hbW hd1; have HZ9 := hid (HZ.out.but hbt HNB.out); have HS9 := hid (HZ9.out.st rr.1 a9 n9 c9); have HL9 := hid (HZ9.out.lv rr.1 a9 n9 c9); have HFin := hid hfin; clear hd1 hbt hfin) | ((with_reducible refine st_arm HS9.out ?_ ?_ ?_); (· rfl); (· rfl)))
    exact bodyPost_ret (v := rpV rr.1 a9 n9 c9) (by simp [results, Try.results21, asAddr, HL9.out]) rfl HFin.out
  rcases hcs with hk | hcs
  · rw [hk] at x0 hR
    rw [if_neg (by decide)] at hR
    rw [if_neg (by decide)] at hR
    rw [if_neg (by decide)] at hR
    rw [if_neg (by decide)] at hR
    rw [if_neg (by decide)] at hR
    rw [if_neg (by decide)] at hR
    rw [if_neg (by decide)] at hR
    rw [if_neg (by decide)] at hR
    rw [if_pos rfl] at hR
    have HD := hid (spawn_any k1 hf c.by_ hby hi1.gifts hgl hgp)
    rw [← hR] at HD
    clear hR hk k k1 hi hi1 hf hcf hh hob hby hop hdl hix hgl hgp
    go_enter Try.func21, Try.ntmps21
    go_upto_region 1 with fail
    rw [← HW.out]
    go_wp2_with (first | ((with_reducible refine R.ld_arm HLd.out ?_ ?_); (· rfl)) | (go_at_call 41; refine HD.out.mono ?_; intro e1 w1 hd1; obtain ⟨a9, n9, c9, rfl, hbt, hfin⟩ := did_out HK0.out HB.out (Nat.le_succ _) hbW hd1; have HZ9 := hid (HZ.out.but hbt HNB.out); have HS9 := hid (HZ9.out.st rr.1 a9 n9 c9); have HL9 := hid (HZ9.out.lv rr.1 a9 n9 c9); have HFin := hid hfin; clear hd1 hbt hfin) | ((with_reducible refine st_arm HS9.out ?_ ?_ ?_); (· rfl); (· rfl)))
    exact bodyPost_ret (v := rpV rr.1 a9 n9 c9) (by simp [results, Try.results21, asAddr, HL9.out]) rfl HFin.out
  · have hk := hcs
    rw [hk] at x0 hR
    rw [if_neg (by decide)] at hR
    rw [if_neg (by decide)] at hR
    rw [if_neg (by decide)] at hR
    rw [if_neg (by decide)] at hR
    rw [if_neg (by decide)] at hR
    rw [if_neg (by decide)] at hR
    rw [if_neg (by decide)] at hR
    rw [if_neg (by decide)] at hR
    rw [if_neg (by decide)] at hR
    
    have HD := hid (exit_any k1 c.by_ hby)
    rw [← hR] at HD
    clear hR hk k k1 hi hi1 hf hcf hh hob hby hop hdl hix hgl hgp
    go_enter Try.func21, Try.ntmps21
    go_upto_region 1 with fail
    rw [← HW.out]
    go_wp2_with (first | ((with_reducible refine R.ld_arm HLd.out ?_ ?_); (· rfl)) | (go_at_call 42; refine HD.out.mono ?_; intro e1 w1 hd1; obtain ⟨a9, n9, c9, rfl, hbt, hfin⟩ := did_out HK0.out HB.out (Nat.le_succ _) hbW hd1; have HZ9 := hid (HZ.out.but hbt HNB.out); have HS9 := hid (HZ9.out.st rr.1 a9 n9 c9); have HL9 := hid (HZ9.out.lv rr.1 a9 n9 c9); have HFin := hid hfin; clear hd1 hbt hfin) | ((with_reducible refine st_arm HS9.out ?_ ?_ ?_); (· rfl); (· rfl)))
    exact bodyPost_ret (v := rpV rr.1 a9 n9 c9) (by simp [results, Try.results21, asAddr, HL9.out]) rfl HFin.out
end
end Go.Proofs.Ytffmodpgddecnaa.V.E
namespace Go.Proofs.Ytffmodpgddecnaa.V.E
open Go.RowKit Go.Maps
open Go.Proofs.Ytffmodpgddecnaa.H (B64 Cp)
set_option linter.unusedVariables false
set_option linter.unusedSimpArgs false
open Go.Proofs.Ytffmodpgddecnaa.R (wi sgB gfB inB wmB)
theorem all_take (G : List Int) (i : Nat) (h : i < G.length) (f : Int → Bool) : (G.take (i + 1)).all f = ((G.take i).all f && f G[i]) := by
  rw [List.take_succ_eq_append_getElem h, List.all_append]
  simp
set_option maxRecDepth 100000 in
set_option maxHeartbeats 4000000 in
theorem areGifts_any (a : Option Addr) (n cap : Nat) (G : List Int) (w : World) (h : R.RI w a n cap G) : Calls Try.prog 47 #[.slice a n cap] w fun e w' => e = .returned (.bool (gfB G)) ∧ w' = w := by
  have hlen := h.len
  by_cases hl : n ≤ 255
  · have hd : decide ((n : Int) > 255) = false := by simp; omega
    have hd2 : decide ((255 : Int) < (n : Int)) = false := by simp; omega
    have E : Hid (gfB G = G.all (fun g => wi g 0 65535)) := by unfold Hid gfB; rw [decide_eq_true (by omega), Bool.true_and]
    have H : Hid (R.RI w a n cap G) := h
    have HL : Hid (G.length = n) := hlen
    clear h hlen
    go_enter Try.func47, Try.ntmps47
    go_wp2
    go_loop [10] (fun t => ∃ i : Nat, i ≤ n ∧ t = .int .i64 (i : Int) ∧ (G.take i).all (fun g => wi g 0 65535) = true) (fun t => n - (intOf t).toNat)
    case atStart => exact ⟨0, by omega, rfl, by simp⟩
    case round =>
      obtain ⟨i, hi, rfl, ht⟩ := hrel
      have HT : Hid ((G.take i).all (fun g => wi g 0 65535) = true) := ht
      clear ht
      have ei : IntKind.i64.wrap ((i : Int) + 1) = (i : Int) + 1 := by rw [IntKind.wrap_i64]; omega
      by_cases hlt : i < n
      · have hdi : decide ((i : Int) < (n : Int)) = true := by simp; omega
        obtain ⟨b, o, rfl, hc⟩ := H.out.plain (by omega)
        have hiG : i < G.length := by have := HL.out; omega
        have hcell := hc i hiG
        have HA : Hid _ := all_take G i hiG (fun g => wi g 0 65535)
        have HG : Hid (G[i] ∈ G) := List.getElem_mem hiG
        generalize G[i] = x at hcell HA HG
        clear hc
        by_cases hx : wi x 0 65535 = true
        · have HA2 : Hid ((G.take (i + 1)).all (fun g => wi g 0 65535) = true) := by have := HA.out; unfold Hid; rw [this, HT.out]; simpa using hx
          clear HA HG
          go_wp2_with (first | (go_at_call 27; refine (within_any x 0 65535 _).mono ?_; rintro e w1 ⟨rfl, rfl⟩; rw [hx]))
          exact ⟨⟨i + 1, by omega, by go_num, HA2.out⟩, by simp [intOf]; omega⟩
        · have hx' : wi x 0 65535 = false := by simpa using hx
          have E2 : Hid (gfB G = false) := by
            unfold Hid
            rw [E.out, List.all_eq_false]
            exact ⟨x, HG.out, by rw [hx']; simp⟩
          clear HA HG hx
          go_wp2_with (first | (go_at_call 27; refine (within_any x 0 65535 _).mono ?_; rintro e w1 ⟨rfl, rfl⟩; rw [hx']))
          go_ret
          exact ⟨ret_bool E2.out.symm, rfl⟩
      · obtain rfl : i = n := by omega
        have E2 : Hid (gfB G = true) := by
          have := HT.out
          rw [List.take_of_length_le (by have := HL.out; omega)] at this
          unfold Hid
          rw [E.out, this]
        go_wp2
        go_ret
        exact ⟨ret_bool E2.out.symm, rfl⟩
  · have hd : decide ((n : Int) > 255) = true := by simp; omega
    have hd2 : decide ((255 : Int) < (n : Int)) = true := by simp; omega
    have E : Hid (gfB G = false) := by unfold Hid gfB; rw [decide_eq_false (by omega), Bool.false_and]
    clear h hlen
    go_enter Try.func47, Try.ntmps47
    go_wp2
    go_ret
    exact ⟨ret_bool E.out.symm, rfl⟩
set_option maxRecDepth 100000 in
theorem ws8 : ∀ x1 x2 x3 x4 x5 x6 x7 x8 : Bool, (x1 = false) ∨ (x1 = true ∧ x2 = false) ∨ (x1 = true ∧ x2 = true ∧ x3 = false) ∨ (x1 = true ∧ x2 = true ∧ x3 = true ∧ x4 = false) ∨ (x1 = true ∧ x2 = true ∧ x3 = true ∧ x4 = true ∧ x5 = false) ∨ (x1 = true ∧ x2 = true ∧ x3 = true ∧ x4 = true ∧ x5 = true ∧ x6 = false) ∨ (x1 = true ∧ x2 = true ∧ x3 = true ∧ x4 = true ∧ x5 = true ∧ x6 = true ∧ x7 = false) ∨ (x1 = true ∧ x2 = true ∧ x3 = true ∧ x4 = true ∧ x5 = true ∧ x6 = true ∧ x7 = true ∧ x8 = false) ∨ (x1 = true ∧ x2 = true ∧ x3 = true ∧ x4 = true ∧ x5 = true ∧ x6 = true ∧ x7 = true ∧ x8 = true) := by rintro (_ | _) (_ | _) (_ | _) (_ | _) (_ | _) (_ | _) (_ | _) (_ | _) <;> simp
def ibB (cl : R.Cl) : Bool := sgB cl.size && sgB cl.off && sgB cl.n && wi cl.obj 0 4611686018427387904 && wi cl.rights 0 255 && decide (cl.data.length ≤ 1025) && wi cl.index 0 65535 && gfB cl.gifts
set_option maxRecDepth 100000 in
set_option maxHeartbeats 4000000 in
theorem inBounds_any {cl : R.Cl} {dd gg : R.Sl} {w : World} (h : R.Is w cl dd gg) : Calls Try.prog 28 #[.agg (R.cC cl dd gg).toArray] w fun e w' => e = .returned (.bool (ibB cl)) ∧ Below w.heap.size w w' := by
  obtain ⟨op, by_, size, obj, hi, lo, given, rights, off, n, data, index, gifts⟩ := cl
  obtain ⟨da, dn, dc⟩ := dd
  obtain ⟨ga, gn, gc⟩ := gg
  have hdl : data.length = dn := h.data.len
  have HG : Hid (∀ o, R.RI (w.alloc o) ga gn gc gifts) := fun o => h.gifts.later (below1 _ _)
  have HD : decide (data.length ≤ 1025) = decide ((dn : Int) ≤ 1025) := by rw [hdl, Bool.eq_iff_iff]; simp only [decide_eq_true_eq]; omega
  unfold ibB
  simp only [HD]
  clear h hdl HD
  obtain ⟨x1, F1⟩ : ∃ x, sgB size = x := ⟨_, rfl⟩
  obtain ⟨x2, F2⟩ : ∃ x, sgB off = x := ⟨_, rfl⟩
  obtain ⟨x3, F3⟩ : ∃ x, sgB n = x := ⟨_, rfl⟩
  obtain ⟨x4, F4⟩ : ∃ x, wi obj 0 4611686018427387904 = x := ⟨_, rfl⟩
  obtain ⟨x5, F5⟩ : ∃ x, wi rights 0 255 = x := ⟨_, rfl⟩
  obtain ⟨x6, F6⟩ : ∃ x, decide ((dn : Int) ≤ 1025) = x := ⟨_, rfl⟩
  obtain ⟨x7, F7⟩ : ∃ x, wi index 0 65535 = x := ⟨_, rfl⟩
  obtain ⟨x8, F8⟩ : ∃ x, gfB gifts = x := ⟨_, rfl⟩
  rw [F1, F2, F3, F4, F5, F6, F7, F8]
  obtain ⟨r, hr⟩ : ∃ r, r = (x1 && x2 && x3 && x4 && x5 && x6 && x7 && x8) := ⟨_, rfl⟩
  rw [← hr]
  have HR := hid hr
  clear hr
  unfold R.cC R.Sl.v
  rcases ws8 x1 x2 x3 x4 x5 x6 x7 x8 with rfl | ⟨rfl, rfl⟩ | ⟨rfl, rfl, rfl⟩ | ⟨rfl, rfl, rfl, rfl⟩ | ⟨rfl, rfl, rfl, rfl, rfl⟩ | ⟨rfl, rfl, rfl, rfl, rfl, rfl⟩ | ⟨rfl, rfl, rfl, rfl, rfl, rfl, rfl⟩ | ⟨rfl, rfl, rfl, rfl, rfl, rfl, rfl, rfl⟩ | ⟨rfl, rfl, rfl, rfl, rfl, rfl, rfl, rfl⟩
  all_goals
    go_enter Try.func28, Try.ntmps28
    go_wp2_with (first | (go_at_call 27; refine (within_any _ _ _ _).mono ?_; rintro e w1 ⟨rfl, rfl⟩; simp only [F1, F2, F3, F4, F5, F6, F7, F8]) | (go_at_call 46; refine (is32_any _ _).mono ?_; rintro e w1 ⟨rfl, rfl⟩; simp only [F1, F2, F3, F4, F5, F6, F7, F8]) | (go_at_call 47; refine (areGifts_any _ _ _ gifts _ (HG.out _)).mono ?_; rintro e w1 ⟨rfl, rfl⟩; simp only [F1, F2, F3, F4, F5, F6, F7, F8]))
    go_ret
    exact ⟨ret_bool (by have := HR.out; simpa using this.symm), below1 _ _⟩
end Go.Proofs.Ytffmodpgddecnaa.V.E
namespace Go.Proofs.Ytffmodpgddecnaa.V.E
open Go.RowKit Go.Maps
open Go.Proofs.Ytffmodpgddecnaa.H (B64 Cp)
set_option linter.unusedVariables false
set_option linter.unusedSimpArgs false
def ouB (cl : R.Cl) : Bool := (decide (cl.size = 0) || decide (cl.op = 1)) && (decide ((cl.obj, cl.hi, cl.lo) = ((0, 0, 0) : Cp)) || ucB cl.op) && (!cl.given || mvB cl.op) && (decide (cl.rights = 0) || decide (cl.op = 3)) && (decide (cl.off = 0) || mvB cl.op) && (decide (cl.n = 0) || decide (cl.op = 5)) && (decide (cl.data.length = 0) || decide (cl.op = 6)) && (decide (cl.index = 0) || decide (cl.op = 8)) && (decide (cl.gifts.length = 0) || decide (cl.op = 9))
theorem beq_dec (a b : Int) : decide (a = b) = (a == b) := Bool.eq_iff_iff.2 (by simp)
theorem nat_dec (a : Nat) : decide (a = 0) = ((a : Int) == 0) := Bool.eq_iff_iff.2 (by simp)
end Go.Proofs.Ytffmodpgddecnaa.V.E
