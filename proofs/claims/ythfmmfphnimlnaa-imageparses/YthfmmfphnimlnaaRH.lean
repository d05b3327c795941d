import Derived.Test.YthfmmfphnimlnaaIS
namespace Go.Proofs.Ythfmmfphnimlnaa
open Go.RowKit
set_option linter.unusedVariables false
set_option linter.unusedSimpArgs false
/-- Bytes that grow, in memory behind a world. -/
structure Bq (W U : World) (a : Option Addr) (n cap : Nat) (B : List Nat) : Prop where
  own : Own U W.heap.size a n cap B
  bel : Below W.heap.size W U
theorem Bq.later {W U U' : World} {a : Option Addr} {n cap : Nat} {B : List Nat} (h : Bq W U a n cap B) (hb : Below U.heap.size U U') : Bq W U' a n cap B := ⟨h.own.later hb, below_call h.bel hb⟩
theorem bput (k : Nat) (hk : k ≤ 8) {W U : World} {a : Option Addr} {n cap : Nat} {B : List Nat} (h : Bq W U a n cap B) (hn : n ≤ 10000000) (v : Int) :
    Calls Try.prog 36 #[.slice a n cap, .int .i64 v, .int .i64 (k : Int)] U fun e w' => ∃ a' c', e = .returned (.slice a' (n + k) c') ∧ Bq W w' a' (n + k) c' (B ++ beL v k) ∧ Gr a a' U w' := by
  refine (rput_any a n cap B v k U W.heap.size h.own h.bel.size hk hn).mono ?_
  rintro e w' ⟨a', c', rfl, ho, hg⟩
  exact ⟨a', c', rfl, ⟨ho, h.bel.trans (hg.below h.own h.bel.size)⟩, hg⟩
theorem beL_nat (m k : Nat) : beL (m : Int) k = leL m k := by
  unfold beL leL
  apply List.map_congr_left
  intro i _
  have : ((m : Int) / 256 ^ i % 256) = ((m / 256 ^ i % 256 : Nat) : Int) := by simp
  rw [this, Int.toNat_natCast]
theorem beL_cap (x : Cp) (h0 : 0 ≤ x.o) : beL x.o 8 ++ (leL x.l 8 ++ leL x.h 8) = capL x := by
  obtain ⟨n, hn⟩ : ∃ n : Nat, x.o = n := ⟨x.o.toNat, by omega⟩
  unfold capL
  rw [hn, beL_nat, Int.toNat_natCast, List.append_assoc]
theorem beL_par (p : Int) (h : p = -1 ∨ 0 ≤ p ∧ p < 65535) : beL p 2 = leL (parN p) 2 := by
  rcases h with rfl | h
  · decide
  · obtain ⟨n, rfl⟩ : ∃ n : Nat, p = n := ⟨p.toNat, by omega⟩
    unfold parN
    rw [if_neg (by omega), beL_nat, Int.toNat_natCast]
theorem beL_pos (p : Int) (k : Nat) (h : 0 ≤ p) : beL p k = leL p.toNat k := by
  obtain ⟨n, rfl⟩ : ∃ n : Nat, p = n := ⟨p.toNat, by omega⟩
  rw [beL_nat, Int.toNat_natCast]
set_option maxRecDepth 100000 in
set_option maxHeartbeats 4000000 in
theorem rcapped_any {W U : World} {a : Option Addr} {n cap : Nat} {B : List Nat} (h : Bq W U a n cap B) (hn : n ≤ 9000000) (x : Cp) (hx : x.ok) (h0 : 0 ≤ x.o) :
    Calls Try.prog 37 #[.slice a n cap, .agg #[.int .i64 x.o, .int .u64 (x.h : Int), .int .u64 (x.l : Int)]] U fun e w' => ∃ a' c', e = .returned (.slice a' (n + 24) c') ∧ Bq W w' a' (n + 24) c' (B ++ capL x) := by
  have HCp := hid (beL_cap x h0)
  have HX := hid hx
  obtain ⟨xo, xh, xl⟩ := x
  simp only at HCp HX
  obtain ⟨V, hV⟩ : ∃ V, V = U.alloc (Obj.cells #[.int .i64 xo, .int .u64 (xh : Int), .int .u64 (xl : Int)] 65) := ⟨_, rfl⟩
  have HBn : Hid (Below U.heap.size U V) := by rw [hV]; exact below1 _ _
  have HQ := hid (h.later HBn.out)
  have hnb : ¬ Blk a U.heap.size := fun hk => by have := h.own.lt _ hk; omega
  have HCl : Hid (∀ X, But (Blk a) V X → X.cell? ⟨U.heap.size, 0, none⟩ = some (.int .i64 xo) ∧ X.cell? ⟨U.heap.size, 1, none⟩ = some (.int .u64 (xh : Int)) ∧ X.cell? ⟨U.heap.size, 1 + 1, none⟩ = some (.int .u64 (xl : Int))) := fun X hX =>
    ⟨cell_but hX (by rw [hV]; simp [go_sem]) hnb, cell_but hX (by rw [hV]; simp [go_sem]) hnb, cell_but hX (by rw [hV]; simp [go_sem]) hnb⟩
  have HNb : Hid (∀ k, Blk a k → k < U.heap.size) := h.own.lt
  have S0 := HCl.out _ (But.of (Below.refl _ _).drew)
  have HP := hid (bput 8 (by omega) (HQ.out.later (Below.refl V.heap.size V).drew) (by omega) xo)
  have HWd := hid (fun U => rword_any xh xl U HX.out.1 HX.out.2)
  have HV := hid hV
  clear h hV hnb hx h0
  go_enter Try.func37, Try.ntmps37
  go_upto_region 1 with fail
  rw [← HV.out]
  go_region_held3 (fun X => X.cell? ⟨U.heap.size, 0, none⟩ = some (.int .i64 xo) ∧ X.cell? ⟨U.heap.size, 1, none⟩ = some (.int .u64 (xh : Int)) ∧ X.cell? ⟨U.heap.size, 1 + 1, none⟩ = some (.int .u64 (xl : Int))) (first | exact S4 | exact S3 | exact S2 | exact S0) (first
    | (go_at_call 36; refine HP.out.mono ?_; rintro e w2 ⟨a2, c2, rfl, hq2, hg2⟩; have HQ2 := hid hq2; have HG2 := hid ((hg2.pre (Below.refl V.heap.size V).drew)); have S2 := HCl.out _ HG2.out.but; clear hq2 hg2)
    | (go_at_call 65; refine (HWd.out _).mono ?_; rintro e w3 ⟨a3, c3, rfl, ho3, hb3⟩; have S3 := HCl.out _ (HG2.out.but.call hb3); obtain ⟨a4, c4, w4, hrun4, hown4, hgr4⟩ := append_any (HQ2.out.own.later hb3) ho3.read (Nat.le_trans HQ2.out.bel.size hb3.size) (by omega); have HRUN := hid hrun4; have HQ4 : Hid (Bq W w4 a4 (n + 8 + 16) c4 (B ++ beL xo 8 ++ (leL xl 8 ++ leL xh 8))) := ⟨hown4, (below_call HQ2.out.bel hb3).trans (hgr4.below (HQ2.out.own.later hb3) (Nat.le_trans HQ2.out.bel.size hb3.size))⟩; have S4 := HCl.out _ ((HG2.out.but.call hb3).comp hgr4.but (fun i hi => by
        rcases HG2.out.on i hi with h1 | h1
        · exact .inl h1
        · exact .inr h1)); clear ho3 hb3 hrun4 hown4 hgr4)
    | (refine wp_append_known (.tmp 8) (.tmp 11) 30 rfl _ _ rfl rfl _ w4 HRUN.out ?_))
  go_wp2
  go_ret
  refine ⟨a4, c4, rfl, ?_⟩
  have := HQ4.out
  rw [List.append_assoc, HCp.out] at this
  exact this
end Go.Proofs.Ythfmmfphnimlnaa
