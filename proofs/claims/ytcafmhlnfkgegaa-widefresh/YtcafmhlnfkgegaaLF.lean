import Derived.Test.YtcafmhlnfkgegaaF4
import Derived.Deep.DeepCutAuto
namespace Go.Proofs.Ytcafmhlnfkgegaa
open Go.RowKit

/-- A list of sixteen bytes, the word's, in a block of its own. -/
def RowAt (w : World) (g N : Nat) : Prop := w.heap[g]? = some (.cells (u8s (bytesOf N)).toArray 5 (0, 0))
theorem RowAt.lt {w : World} {g N : Nat} (h : RowAt w g N) : g < w.heap.size := (Array.getElem?_eq_some_iff.1 h).1
theorem RowAt.later {W w1 : World} {g N : Nat} (hb : Below W.heap.size W w1) (h : RowAt W g N) : RowAt w1 g N := by
  unfold RowAt
  rw [hb.block g h.lt]
  exact h
theorem RowAt.alloc {w : World} {g N : Nat} (h : RowAt w g N) (o : Obj) : RowAt (w.alloc o) g N := h.later (below1 _ _)
theorem RowAt.below {B : Nat} {W w1 : World} {g N : Nat} (hb : Below B W w1) (h : RowAt W g N) (hg : g < B) : RowAt w1 g N := by
  unfold RowAt
  rw [hb.block g hg]
  exact h
theorem RowAt.conv {w : World} {g N : Nat} (h : RowAt w g N) : (convert 32 9 (.slice (some ⟨g, 0, none⟩) 16 16)).run Try.prog w = .ok (.string (strB (bytesOf N))) w :=
  conv_bytes w g 0 16 N (fun i hi => by rw [Nat.zero_add]; exact cell_bytes h i hi)
theorem RowAt.lies {w : World} {g N : Nat} (h : RowAt w g N) (i : Nat) (hi : i < 16) : ∃ v, Lies w ⟨g, i, none⟩ v :=
  ⟨_, lies_row h i (.int .u8 (byteN N i : Int)) (by rw [u8s_get, bytesOf_get _ _ hi]; rfl) (by simp)⟩

def gsel (a b c k : Nat) : Nat := if k = 0 then a else if k = 1 then b else c
theorem three_of (W : World) (ga gb gc N M : Nat) (hab : ga < gb) (hbc : gb < gc) (RA : RowAt W ga N) (RB : RowAt W gb N) (RC : RowAt W gc M) (B : Nat) (hB : B = W.heap.size) :
    Three (W.alloc (Obj.cells #[.slice (some ⟨ga, 0, none⟩) 16 16, .slice (some ⟨gb, 0, none⟩) 16 16, .slice (some ⟨gc, 0, none⟩) 16 16] 32)) B (gsel ga gb gc) := by
  subst hB
  have hh := heap_alloc_new W (Obj.cells #[.slice (some ⟨ga, 0, none⟩) 16 16, .slice (some ⟨gb, 0, none⟩) 16 16, .slice (some ⟨gc, 0, none⟩) 16 16] 32)
  have three : ∀ k, k < 3 → k = 0 ∨ k = 1 ∨ k = 2 := by omega
  have la := RA.lt
  have lb := RB.lt
  have lc := RC.lt
  refine ⟨fun k hk => ?_, fun k hk => ?_, fun j k hj hk h => ?_, fun k hk t ht => ?_, by simp, fun k hk => ?_⟩
  · refine (lies_row hh k _ ?_ (by simp)).1
    rcases three k hk with rfl | rfl | rfl <;> simp [gsel]
  · rcases three k hk with rfl | rfl | rfl <;> simp [gsel] <;> omega
  · rcases three j hj with rfl | rfl | rfl <;> rcases three k hk with rfl | rfl | rfl <;> simp [gsel] at h <;> omega
  · rcases three k hk with rfl | rfl | rfl
    · exact (RA.alloc _).lies t ht
    · exact (RB.alloc _).lies t ht
    · exact (RC.alloc _).lies t ht
  · rcases three k hk with rfl | rfl | rfl <;> simp [gsel] <;> omega
theorem gsel_ne {x a b c : Nat} (ha : x ≠ a) (hb : x ≠ b) (hc : x ≠ c) : ∀ j, j < 3 → x ≠ gsel a b c j := by
  intro j _
  unfold gsel
  split
  · exact ha
  · split
    · exact hb
    · exact hc
theorem stays_below {w W w' : World} {G : Nat → Nat} (h : Below w.heap.size w W) (hs : Stays W w' G) (hG : ∀ j, j < 3 → w.heap.size ≤ G j) : Below w.heap.size w w' :=
  ⟨hs.os.trans h.os, hs.tape.trans h.tape, hs.output.trans h.output, Nat.le_trans h.size hs.size, fun k hk => (hs.block k (Nat.lt_of_lt_of_le hk h.size) (fun j hj e => by have := hG j hj; omega)).trans (h.block k hk)⟩
theorem Box.stays {w w' : World} {G : Nat → Nat} {k : Nat} {a b : Int} (hs : Stays w w' G) (h : Box w k a b) (hn : ∀ j, j < 3 → k ≠ G j) : Box w' k a b := by
  have hb := hs.block k (World.block_lt_of_cell? _ _ h.1) hn
  exact ⟨by rw [World.cell?_of_block hb]; exact h.1, by rw [World.cell?_of_block hb]; exact h.2⟩
theorem Box.set {w : World} {k : Nat} {a b : Int} {p : Addr} {v : Value} (h : Box w k a b) (hn : p.block ≠ k) : Box (w.setCell p v) k a b :=
  ⟨by rw [World.cell?_setCell_other _ _ _ _ (fun e => hn (by rw [e]))]; exact h.1, by rw [World.cell?_setCell_other _ _ _ _ (fun e => hn (by rw [e]))]; exact h.2⟩
def bump (N q i : Nat) : Nat := if i = 0 then q else byteN N i
theorem bump_ne {N q : Nat} (hq : q = (byteN N 0 + 1) % 256) : valN (bump N q) 16 ≠ N := by
  intro h
  have hl := byteN_lt N 0
  have hf : ∀ i, bump N q i < 256 := by
    intro i
    unfold bump
    split
    · omega
    · exact byteN_lt N i
  have := byte_valN hf 16 0 (by omega)
  rw [h] at this
  unfold bump at this
  simp at this
  omega
theorem bump_lt {N q : Nat} (hq : q = (byteN N 0 + 1) % 256) (i : Nat) : bump N q i < 256 := by
  unfold bump
  split
  · omega
  · exact byteN_lt N i

/-- The word's bytes, made a new list of its text. -/
theorem conv_room (N : Nat) (W : World) : ∃ cE wE, (convert 9 32 (.string (strB (bytesOf N)))).run Try.prog W = .ok (.slice (some ⟨W.heap.size, 0, none⟩) 16 cE) wE ∧ 16 ≤ cE ∧
    (∀ i, i < 16 → wE.cell? ⟨W.heap.size, i, none⟩ = some (.int .u8 (byteN N i : Int))) ∧ (∀ i, i < cE → ∃ v, Lies wE ⟨W.heap.size, i, none⟩ v) ∧ Below W.heap.size W wE := by
  refine ⟨_, _, conv16 N W, grownCap_ge _ _ _ _, fun i hi => ?_, fun i hi => bytes_lies N W i hi, below_bytes _ _⟩
  have h1 := strB_size (bytesOf N)
  rw [bytesOf_length] at h1
  have := str_cell W (strB (bytesOf N)) i (by omega)
  rwa [Nat.zero_add, strF_bytes N i hi] at this
/-- .. and three bytes behind it. -/
theorem new_room (N : Nat) (W : World) : ∃ cE wE gr cr wF, (convert 9 32 (.string (strB (bytesOf N)))).run Try.prog W = .ok (.slice (some ⟨W.heap.size, 0, none⟩) 16 cE) wE ∧
    (Builtin.append_ #[32, 32] 32 #[.slice (some ⟨W.heap.size, 0, none⟩) 16 cE, .slice (some ⟨wE.heap.size, 0, none⟩) 3 3]).run Try.prog (wE.alloc (Obj.cells #[.int .u8 165, .int .u8 166, .int .u8 167] 5)) = .ok (.slice (some ⟨gr, 0, none⟩) 19 cr) wF ∧ 19 ≤ cr ∧ W.heap.size ≤ gr ∧ Room wF gr (byteN N) ∧ Below W.heap.size W wF := by
  obtain ⟨cE, wE, h1, h2, h3, h4, h5⟩ := conv_room N W
  obtain ⟨gr, cr, wF, k1, k2, k3, k4, k5⟩ := append_room (wE.alloc (Obj.cells #[.int .u8 165, .int .u8 166, .int .u8 167] 5)) W.heap.size cE (byteN N) ⟨wE.heap.size, 0, none⟩ W.heap.size h2 (fun i hi => cell_later (below1 _ _) (h3 i hi)) (fun i hi => by obtain ⟨v, hv⟩ := h4 i hi; exact ⟨v, hv.alloc _⟩) (Nat.le_refl _) (by have := h5.size; simp; omega)
    (fun j u hu => by
      rw [addr_add0]
      have hj : j < 3 := by have := (List.getElem?_eq_some_iff.1 hu).1; simpa using this
      have hh := heap_alloc_new wE (Obj.cells #[.int .u8 165, .int .u8 166, .int .u8 167] 5)
      have := lies_row hh j u (by simpa using hu) (by simp)
      exact this.1)
  exact ⟨cE, wE, gr, cr, wF, h1, k1, k2, k3, k4, (h5.trans ((below1 _ _).mono h5.size)).trans k5⟩

set_option maxRecDepth 100000 in
set_option maxHeartbeats 4000000 in
theorem fresh_walk (a0 b0 a1 b1 : Int) (N M : Nat) (w : World) (hN : IsV a0 b0 N) (hM : IsV a1 b1 M) :
    Calls Try.prog 5 #[.agg #[.int .u64 a0, .int .u64 b0], .agg #[.int .u64 a1, .int .u64 b1]] w fun e w' => e = .returned (.bool true) ∧ Below w.heap.size w w' := by
  have heq := eqlW
  have hne := neqW
  have hself := wEq_self
  have hb0 : Below w.heap.size w ((w.alloc (Obj.cells #[Value.int IntKind.u64 a0, Value.int IntKind.u64 b0] 24)).alloc (Obj.cells #[Value.int IntKind.u64 a1, Value.int IntKind.u64 b1] 24)) := below2 _ _ _
  have X0 := (Box.new w a0 b0).alloc (Obj.cells #[Value.int IntKind.u64 a1, Value.int IntKind.u64 b1] 24)
  have X1 : Box ((w.alloc (Obj.cells #[Value.int IntKind.u64 a0, Value.int IntKind.u64 b0] 24)).alloc (Obj.cells #[Value.int IntKind.u64 a1, Value.int IntKind.u64 b1] 24)) (w.heap.size + 1) a1 b1 := by simpa using Box.new (w.alloc (Obj.cells #[Value.int IntKind.u64 a0, Value.int IntKind.u64 b0] 24)) a1 b1
  have HBK : Hid (valN (byteN N) 16 = N) := byteN_back hN.lt
  go_enter Try.func5, Try.ntmps5
  go_upto_region 2 with (first | (go_at_call 12; refine (bytes_any _ _ _ _ hN).mono ?_; rintro e wA ⟨ga, rfl, hga0, RA, hb⟩; change RowAt wA ga N at RA; replace hga0 : w.heap.size + 1 + 1 ≤ ga := (by simpa using hga0); replace hb0 := below_call hb0 hb; replace X0 := X0.later hb; replace X1 := X1.later hb; clear hb; have x0 := X0.1; have x1 := X0.2))
  go_upto_region 3 with (first | (go_at_call 12; refine (bytes_any _ _ _ _ hN).mono ?_; rintro e wB ⟨gb, rfl, hgb0, RB, hb⟩; change RowAt wB gb N at RB; replace hb0 := below_call hb0 hb; replace X0 := X0.later hb; replace X1 := X1.later hb; have hab : ga < gb := Nat.lt_of_lt_of_le RA.lt hgb0; replace RA := RA.later hb; clear hb hgb0 x0 x1; have x0 := X1.1; have x1 := X1.2))
  go_upto_region 4 with (first | (go_at_call 12; refine (bytes_any _ _ _ _ hM).mono ?_; rintro e wC ⟨gc, rfl, hgc0, RC, hb⟩; change RowAt wC gc M at RC; replace hb0 := below_call hb0 hb; replace X0 := X0.later hb; have hbc : gb < gc := Nat.lt_of_lt_of_le RB.lt hgc0; replace RA := RA.later hb; replace RB := RB.later hb; clear hb hgc0 x0 x1 X1))
  go_upto_region 7 with (first | (go_at_call 8; refine (known_any _).mono ?_; rintro e wD ⟨rfl, hb⟩; replace hb0 := below_call hb0 hb; replace X0 := X0.later hb; replace RA := RA.later hb; replace RB := RB.later hb; replace RC := RC.later hb; clear hb; have cvA := RA.conv; have cvB := RB.conv))
  obtain ⟨cE, wE, gr, cr, wF, hcs, hrun, hcr, hgr0, RR, hbF⟩ := new_room N wD
  have HRUN : Hid _ := hrun
  have hcr1 : (16 : Int) ≤ (cr : Int) := by omega
  have hlA : ga < wD.heap.size := RA.lt
  have hlB : gb < wD.heap.size := RB.lt
  have hlC : gc < wD.heap.size := RC.lt
  replace hb0 := below_call hb0 hbF
  replace X0 := X0.later hbF
  replace RA := RA.later hbF
  replace RB := RB.later hbF
  replace RC := RC.later hbF
  clear hrun hbF cvA cvB
  go_upto_region 8 with (first | (at_builtin; refine wpList_append_known rfl _ _ 32 rfl _ _ rfl rfl _ wF HRUN.out ?_))
  clear hcs HRUN
  go_upto_region 9 with (first | (go_at_call 13; refine (of_any gr 0 16 cr (byteN N) _ (by omega) (by omega) (byteN_lt N) (fun i hi => by rw [Nat.zero_add]; exact (RR.low i hi).1)).mono ?_; rintro e wG ⟨c, d, rfl, hcd, hb⟩; rw [HBK.out] at hcd; obtain ⟨rfl, rfl⟩ := hN.inj hcd; clear hcd; have Y := Box.new wG a0 b0; replace hb0 := Below.alloc (below_call hb0 hb) (below_call hb0 hb).size (Obj.cells #[Value.int IntKind.u64 a0, Value.int IntKind.u64 b0] 24); replace X0 := (X0.later hb).alloc (Obj.cells #[Value.int IntKind.u64 a0, Value.int IntKind.u64 b0] 24); replace RA := (RA.later hb).alloc (Obj.cells #[Value.int IntKind.u64 a0, Value.int IntKind.u64 b0] 24); replace RB := (RB.later hb).alloc (Obj.cells #[Value.int IntKind.u64 a0, Value.int IntKind.u64 b0] 24); replace RC := (RC.later hb).alloc (Obj.cells #[Value.int IntKind.u64 a0, Value.int IntKind.u64 b0] 24); replace RR := (RR.later hb).alloc (Obj.cells #[Value.int IntKind.u64 a0, Value.int IntKind.u64 b0] 24); clear hb))
  have x0 := X0.1
  have x1 := X0.2
  have y0 := Y.1
  have y1 := Y.2
  have m0 := RR.m0.1
  have m1 := RR.m1.1
  have m2 := RR.m2.1
  have hcv := conv_bytes _ gr 0 cr N (fun i hi => by rw [Nat.zero_add]; exact (RR.low i hi).1)
  have T3 := three_of _ ga gb gc N M hab hbc RA RB RC (wG.heap.size + 1) (by simp)
  clear RA RB RC Y
  go_upto_region 11 with (first | (go_at_call 16; refine (m_walk _ _ _ T3).mono ?_; rintro e wI ⟨rfl, hst⟩))
  have hgw : w.heap.size < ga := by omega
  replace hb0 := stays_below (Below.alloc hb0 hb0.size (Obj.cells #[Value.slice (some ⟨ga, 0, none⟩) 16 16, Value.slice (some ⟨gb, 0, none⟩) 16 16, Value.slice (some ⟨gc, 0, none⟩) 16 16] 32)) hst (fun j hj => by unfold gsel; split <;> (try split) <;> omega)
  replace X0 := (X0.alloc (Obj.cells #[Value.slice (some ⟨ga, 0, none⟩) 16 16, Value.slice (some ⟨gb, 0, none⟩) 16 16, Value.slice (some ⟨gc, 0, none⟩) 16 16] 32)).stays hst (gsel_ne (by omega) (by omega) (by omega))
  replace RR := (RR.alloc (Obj.cells #[Value.slice (some ⟨ga, 0, none⟩) 16 16, Value.slice (some ⟨gb, 0, none⟩) 16 16, Value.slice (some ⟨gc, 0, none⟩) 16 16] 32)).stays hst (gsel_ne (by omega) (by omega) (by omega))
  clear x0 x1 y0 y1 m0 m1 m2 hcv T3 hst
  obtain ⟨q, hq⟩ : ∃ q : Nat, q = (byteN N 0 + 1) % 256 := ⟨_, rfl⟩
  have HQ : Hid (q = (byteN N 0 + 1) % 256) := hq
  have ew : IntKind.u8.wrap ((byteN N 0 : Int) + 1) = (q : Int) := by rw [IntKind.wrap_u8]; omega
  have r0 := (RR.low 0 (by omega)).1
  have r1 := (RR.low 0 (by omega)).2
  have RR2 : Room (wI.setCell ⟨gr, 0, none⟩ (.int .u8 (q : Int))) gr (bump N q) := RR.store (f' := bump N q) (fun i hi => by unfold bump; rw [if_neg (by omega)])
  have hgr1 : w.heap.size < gr := by have := hb0.size; omega
  replace hb0 := hb0.setCell (Nat.le_of_lt hgr1) (p := ⟨gr, 0, none⟩) (.int .u8 (q : Int))
  replace X0 : Box (wI.setCell ⟨gr, 0, none⟩ (.int .u8 (q : Int))) w.heap.size a0 b0 := X0.set (by simp; omega)
  clear RR hq
  go_upto_region 12 with fail
  clear r0 r1 ew
  go_upto_region 13 with (first | (go_at_call 13; refine (of_any gr 0 16 cr (bump N q) _ (by omega) (by omega) (bump_lt HQ.out) (fun i hi => by rw [Nat.zero_add]; exact (RR2.low i hi).1)).mono ?_; rintro e wJ ⟨c, d, rfl, hcd, hb⟩; have Y := Box.new wJ c d; replace hb0 := Below.alloc (below_call hb0 hb) (below_call hb0 hb).size (Obj.cells #[Value.int IntKind.u64 c, Value.int IntKind.u64 d] 24); replace X0 := (X0.later hb).alloc (Obj.cells #[Value.int IntKind.u64 c, Value.int IntKind.u64 d] 24); clear hb))
  have hw : wEq c d a0 b0 = false := by rw [wEq_of hcd hN]; exact decide_eq_false (bump_ne HQ.out)
  have x0 := X0.1
  have x1 := X0.2
  have y0 := Y.1
  have y1 := Y.2
  clear RR2 hcd
  go_wp2_with (first | (go_at_call 12; refine (bytes_any _ _ _ _ hN).mono ?_; rintro e wK ⟨gk, rfl, hgk0, RK, hb⟩; change RowAt wK gk N at RK; have cvK := RK.conv))
  go_ret
  exact ⟨rfl, below_call hb0 hb⟩
end Go.Proofs.Ytcafmhlnfkgegaa
