import Derived.Test.YtlkjieophdabpaaR1
namespace Go.Proofs.Ytlkjieophdabpaa
open Go.RowKit
set_option linter.unusedVariables false

/-- The first i are v. -/
def mkk (i : Nat) (v : Int) (L : List Int) : List Int := List.replicate i v ++ L.drop i
theorem mkk_zero (v : Int) (L : List Int) : mkk 0 v L = L := by simp [mkk]
theorem mkk_step (i : Nat) (v : Int) (L : List Int) (h : i < L.length) : (mkk i v L).set i v = mkk (i + 1) v L := by
  unfold mkk
  rw [List.drop_eq_getElem_cons h, List.set_append_right _ _ (by simp), List.length_replicate, Nat.sub_self, List.set_cons_zero, List.replicate_succ', List.append_assoc]
  rfl
theorem mkk_len (i : Nat) (v : Int) (L : List Int) (h : i ≤ L.length) : (mkk i v L).length = L.length := by simp [mkk]; omega
theorem mkk_at (i : Nat) (v : Int) (L : List Int) (h : i < L.length) : (mkk i v L)[i]? = some L[i] := by
  unfold mkk
  rw [List.getElem?_append_right (by simp)]
  simp [h]
/-- Two that share nothing. -/
def Dj (g : Nat) (pa : Option Addr) (r : Nat) (pb : Option Addr) : Prop := ∀ k, (k = g ∨ Blk pa k) → ¬ (k = r ∨ Blk pb k)
theorem Dj.symm {g r : Nat} {pa pb : Option Addr} (h : Dj g pa r pb) : Dj r pb g pa := fun k h1 h2 => h k h2 h1
theorem Ob.blk {w : World} {base g : Nat} {m x : Int} {pa : Option Addr} {cap : Nat} {L : List Int} (h : Ob w base g m x pa cap L) : ∀ k, (k = g ∨ Blk pa k) → base ≤ k ∧ k < w.heap.size := fun k hk => by
  rcases hk with e | e
  · have := h.lo; have := h.lt; omega
  · exact ⟨h.own.blk k e, h.own.lt k e⟩
theorem Dj.left {w w' : World} {base g r : Nat} {m x : Int} {pa pa' pb : Option Addr} {cap : Nat} {L : List Int} (h : Dj g pa r pb) (hr : Rd w w' g pa pa') (ho : Ob w base r m x pb cap L) : Dj g pa' r pb := fun k h1 h2 => by
  rcases h1 with e | e
  · exact h k (.inl e) h2
  · rcases hr.on k e with e2 | e2
    · exact h k (.inr e2) h2
    · have := (ho.blk k h2).2; omega
theorem Ob.keep {w w' : World} {base g r : Nat} {m x : Int} {pa pa' pb : Option Addr} {cap : Nat} {L : List Int} (ho : Ob w base r m x pb cap L) (h : Dj g pa r pb) (hr : Rd w w' g pa pa') : Ob w' base r m x pb cap L :=
  ho.but hr.but (fun e => h r e (.inl rfl)) (fun k hk e => h k e (.inr hk))
/-- Both. -/
structure Duo (w : World) (base g r : Nat) (m x : Int) (pa : Option Addr) (ca : Nat) (pb : Option Addr) (cb : Nat) (L : List Int) : Prop where
  p : Ob w base g m x pa ca L
  q : Ob w base r m x pb cb L
  ap : Dj g pa r pb
  iv : Iv m x L
theorem Duo.later {w w' : World} {base g r : Nat} {m x : Int} {pa : Option Addr} {ca : Nat} {pb : Option Addr} {cb : Nat} {L : List Int} (h : Duo w base g r m x pa ca pb cb L) (hb : Below w.heap.size w w') : Duo w' base g r m x pa ca pb cb L := ⟨h.p.later hb, h.q.later hb, h.ap, h.iv⟩
/-- Behind the program's call. -/
theorem Duo.one {w w' : World} {base g r : Nat} {m x : Int} {pa : Option Addr} {ca : Nat} {pb : Option Addr} {cb : Nat} {L : List Int} {x' : Int} {pa' : Option Addr} {ca' : Nat} {L' : List Int} (h : Duo w base g r m x pa ca pb cb L)
    (ho : Ob w' base g m x' pa' ca' L') (hr : Rd w w' g pa pa') : Ob w' base r m x pb cb L ∧ Dj g pa' r pb := ⟨h.q.keep h.ap hr, h.ap.left hr h.q⟩
/-- Behind the document's. -/
theorem Duo.two {w w' : World} {base g r : Nat} {m : Int} {x' : Int} {pa' : Option Addr} {ca' : Nat} {L' : List Int} {x : Int} {pb pb' : Option Addr} {cb cb' : Nat} {L : List Int} (ho : Ob w base g m x' pa' ca' L') (hq : Ob w base r m x pb cb L) (hd : Dj g pa' r pb)
    (ho2 : Ob w' base r m x' pb' cb' L') (hr : Rd w w' r pb pb') (hi : Iv m x' L') : Duo w' base g r m x' pa' ca' pb' cb' L' :=
  ⟨ho.keep hd.symm hr, ho2, (hd.symm.left hr ho).symm, hi⟩
/-- How far told has come. -/
def ToRel (w1 : World) (base : Nat) (p : Option Addr) (c : Nat) (L : List Int) (s t : Value) (w' : World) : Prop :=
  ∃ i : Nat, i ≤ L.length ∧ s = .bool true ∧ t = .int .i64 (i : Int) ∧ Own w' base 3 p L.length c (ints (mkk i (-9) L)) ∧ But (Blk p) w1 w'
set_option maxRecDepth 100000 in
set_option maxHeartbeats 2000000 in
theorem told_any {w : World} {base g r : Nat} {m x : Int} {pa : Option Addr} {ca : Nat} {pb : Option Addr} {cb : Nat} {L : List Int} (h : Duo w base g r m x pa ca pb cb L) (n : Int) :
    Calls Try.prog 21 #[.pointer (some ⟨g, 0, none⟩), .pointer (some ⟨r, 0, none⟩), .int .i64 n] w fun e w' => e = .returned (.bool true) ∧ Below w.heap.size w w' := by
  have hnu := hid (numb_any h.p h.iv)
  have hll := h.iv.len32
  have HD := hid h
  clear h
  go_enter Try.func21, Try.ntmps21
  go_upto_region 2 with (first | (go_at_call 12; refine hnu.out.mono ?_; rintro e w1 ⟨p, c, rfl, ho, hb⟩; have HO1 := hid ho; have HB1 := hid hb; clear ho hb))
  have HD1 := hid (HD.out.later HB1.out)
  have c1 := HD1.out.q.c1.1
  have c2 := HD1.out.q.c2.1
  obtain ⟨cf, hcf⟩ : ∃ cf : Int → Bool, ∀ v, L.contains v = cf v := ⟨_, fun _ => rfl⟩
  have hli : Hid (∀ (q : Nat) (v : Int), Calls Try.prog 10 #[.pointer (some ⟨g, 0, none⟩), .int .i64 v] (w1.drewN q) fun e w' => e = .returned (.bool (cf v)) ∧ ∃ q', w' = (w1.drewN q).drewN q') := fun q v => by
    rw [← hcf]
    exact live_any (HD1.out.p.later (below_drewN (Below.refl _ _) q)) HD1.out.iv v
  have his : Hid (∀ (q : Nat) (v : Int), Calls Try.prog 30 #[.pointer (some ⟨r, 0, none⟩), .int .i64 v] (w1.drewN q) fun e w' => e = .returned (.bool (cf v)) ∧ w' = w1.drewN q) := fun q v => by
    rw [← hcf]
    exact is_any (HD1.out.q.later (below_drewN (Below.refl _ _) q)) (by omega) v
  have hns := hid (fun q : Nat => numbers_same p pb L.length L.length c cb L (w1.drewN q) (HO1.out.read.later (below_drewN (Below.refl _ _) q)) (HD1.out.q.own.read.later (below_drewN (Below.refl _ _) q)) (by omega))
  have hne := hid (fun q : Nat => next_any (HD1.out.p.later (below_drewN (Below.refl _ _) q)))
  have hxx : (x == x) = true := by simp
  have hq1 : (cf n == cf n) = true := by simp
  have hq2 : (cf x == cf x) = true := by simp
  clear hcf
  go_quiet (first
    | (go_at_call 16; refine Calls.quiet_of (hns.out _))
    | (go_at_call 13; refine Calls.quiet_of_same (hne.out _))
    | (go_at_call 10; refine Calls.quiet_of (hli.out _ _))
    | (go_at_call 30; refine Calls.quiet_of_same (his.out _ _)))
  obtain ⟨w2, hw2⟩ : ∃ w2, w2 = w1.drewN nq := ⟨_, rfl⟩
  have HB2 : Hid (Below w1.heap.size w1 w2) := by rw [hw2]; exact below_drewN (Below.refl _ _) nq
  rw [← hw2]
  clear hw2 c1 c2 hli his hns hne hq1 hq2 hxx
  have HO2 := hid (HO1.out.later HB2.out)
  have HB := hid (below_call HB1.out HB2.out)
  clear HO1 HB1 HB2 HD1 hnu
  go_upto_region 4 with fail
  go_loopw [8, 9] (ToRel w2 w.heap.size p c L) (fun _ t _ => L.length - (intOf t).toNat)
  case atStart => exact ⟨0, Nat.zero_le _, rfl, rfl, by rw [mkk_zero]; exact HO2.out, But.refl _ _⟩
  case round =>
    obtain ⟨i, hi, rfl, rfl, hO, hBt⟩ := hrel
    have HO := hid hO
    have hBw := But.below HB.out hBt (fun k hk => HO2.out.blk k hk)
    have HBt := hid hBt
    clear hO hBt
    by_cases hlt : i < L.length
    · have hd : decide ((i : Int) < (L.length : Int)) = true := decide_eq_true (by omega)
      obtain ⟨gp, rfl⟩ := HO.out.form (by omega)
      have hge : (mkk i (-9) L)[i]? = some L[i] := mkk_at i (-9) L hlt
      have hu : (ints (mkk i (-9) L))[i]? = some (.int .i64 L[i]) := by simp [ints, hge]
      obtain ⟨_, e1, y1⟩ := HO.out.lies rfl hu
      cases e1
      have hmem := List.getElem_mem hlt
      obtain ⟨y, hy⟩ : ∃ y, y = L[i] := ⟨_, rfl⟩
      rw [← hy] at y1 hmem
      have hli := hid (live_any (HD.out.p.later hBw) HD.out.iv y)
      have hcy : L.contains y = true := by simpa using hmem
      rw [hcy] at hli
      have d1 := y1.1
      have HY := hid y1
      clear hu hge hy hmem hcy hBw y1
      go_upto_region 7 with (first | (go_at_call 10; refine hli.out.mono ?_; rintro e w3 ⟨rfl, hq⟩; have HB3 : Hid (Below wr.heap.size wr w3) := (by obtain ⟨q, rfl⟩ := hq; exact below_drewN (Below.refl _ _) q); clear hq))
      obtain ⟨d3, f3⟩ := HY.out.later HB3.out
      have HN : Hid (ToRel w2 w.heap.size (some ⟨gp, 0, none⟩) c L (.bool true) (.int .i64 ((i : Int) + 1)) (w3.setCell ⟨gp, i, none⟩ (.int .i64 (-9)))) := by
        refine ⟨i + 1, by omega, rfl, rfl, ?_, (HBt.out.call HB3.out).setCell (p := ⟨gp, i, none⟩) ⟨_, rfl, rfl⟩ _⟩
        rw [← mkk_step _ _ _ hlt]
        exact (HO.out.later HB3.out).set
      clear d1 hli HY
      go_wp2
      exact ⟨HN.out, by simp [intOf]; omega⟩
    · obtain rfl : i = L.length := by omega
      have hd : decide ((L.length : Int) < (L.length : Int)) = false := by simp
      have HBw := hid hBw
      clear hBw
      go_wp2
      go_ret
      exact ⟨rfl, HBw.out⟩
end Go.Proofs.Ytlkjieophdabpaa
