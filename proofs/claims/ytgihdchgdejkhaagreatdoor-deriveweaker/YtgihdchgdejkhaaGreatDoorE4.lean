import Derived.Test.YtgihdchgdejkhaaGreatDoorN1
import Derived.Test.YtgihdchgdejkhaaGreatDoorME
namespace Go.Proofs.YtgihdchgdejkhaaGreatDoor.D
open Go.RowKit
open Go.Proofs.YtgihdchgdejkhaaGreatDoor.H (B64 Cp)
set_option linter.unusedVariables false

/-! ### The three in memory -/
/-- Where they lie. -/
structure Hd extends Par where
  g : Nat
  gb : Nat
  A : Ad
  kn : Nat
  qg : Nat
  qb : Nat
/-- The blocks that are written. -/
def Hd.Wr (H : Hd) (k : Nat) : Prop := k = H.g ∨ k = H.qb ∨ H.A.Wr k
structure Hd.Ap (H : Hd) : Prop where
  cg : ∀ k, H.A.All k → k ≠ H.g
  cq : ∀ k, H.A.All k → k ≠ H.qb
  b : 0 < H.n → H.gb ≠ H.qb ∧ ¬ H.A.Wr H.gb
  gq : H.g ≠ H.qb
  q : H.qg ≠ H.g ∧ ¬ H.A.Wr H.qg
  z : ∀ k, H.Wr k → k ≠ 0
structure Tri (w : World) (H : Hd) (s : Sta) : Prop where
  d : Dr w H.g H.gb H.n H.c s.t
  cat : Cat w H.A H.kn H.mo s.X s.l
  qu : Q.Qu w H.qg H.qb H.e H.a s.L
  laid : Laid w
  ap : H.Ap
theorem Tri.later {w w' : World} {H : Hd} {s : Sta} (h : Tri w H s) (hb : Below w.heap.size w w') : Tri w' H s :=
  ⟨h.d.later hb, h.cat.later hb, h.qu.later hb, h.laid.later hb, h.ap⟩
theorem wr_all {A : Ad} {k : Nat} (h : A.Wr k) : A.All k := .inr (.inr h)
theorem Tri.lt {w : World} {H : Hd} {s : Sta} (h : Tri w H s) : ∀ k, H.Wr k → k < w.heap.size := fun k hk => by
  rcases hk with rfl | rfl | hk
  · exact h.d.lt
  · exact h.qu.blt
  · exact h.cat.lt k (wr_all hk)
/-- All its blocks. -/
def Hd.All (H : Hd) (k : Nat) : Prop := k = 0 ∨ k = H.g ∨ (0 < H.n ∧ k = H.gb) ∨ k = H.qg ∨ k = H.qb ∨ H.A.All k
theorem Tri.old {w : World} {H : Hd} {s : Sta} (h : Tri w H s) : ∀ k, H.All k → k < w.heap.size := fun k hk => by
  rcases hk with rfl | rfl | ⟨h0, rfl⟩ | rfl | rfl | hk
  · exact World.block_lt_of_cell? _ _ h.laid
  · exact h.d.lt
  · exact h.d.lt2 h0
  · exact h.qu.glt
  · exact h.qu.blt
  · exact h.cat.lt k hk
theorem Tri.but {S : Nat → Prop} {w w' : World} {H : Hd} {s : Sta} (h : Tri w H s) (hb : But S w w') (hS : ∀ k, H.All k → ¬ S k) : Tri w' H s :=
  ⟨h.d.butN hb (hS _ (.inr (.inl rfl))) (fun h0 => hS _ (.inr (.inr (.inl ⟨h0, rfl⟩)))), h.cat.but hb (fun k hk => hS k (.inr (.inr (.inr (.inr (.inr hk)))))), h.qu.but hb (hS _ (.inr (.inr (.inr (.inl rfl))))) (hS _ (.inr (.inr (.inr (.inr (.inl rfl)))))), h.laid.but hb (hS 0 (.inl rfl)), h.ap⟩
theorem Tri.own {w : World} {H : Hd} {s : Sta} {b : Nat} (h : Tri w H s) (hb : ∀ k, H.All k → k < b) (o : Nat) (u : Value) : Tri (w.setCell ⟨b, o, none⟩ u) H s :=
  h.but (S := (· = b)) ((But.refl (· = b) _).own o u) (fun k hk e => by have := hb k hk; omega)
theorem Hd.wr_all {H : Hd} {k : Nat} (h : H.Wr k) : H.All k := by
  rcases h with rfl | rfl | hk
  · exact .inr (.inl rfl)
  · exact .inr (.inr (.inr (.inr (.inl rfl))))
  · exact .inr (.inr (.inr (.inr (.inr (.inr (.inr hk))))))
theorem Tri.draw {w w' : World} {H : Hd} {s : Sta} {t : Nat} (h : Tri w H s) (hb : But (· = H.g) w w') (hd : Dr w' H.g H.gb H.n H.c t) : Tri w' H { s with t := t } :=
  ⟨hd, h.cat.but hb h.ap.cg, h.qu.but hb h.ap.q.1 h.ap.gq.symm, h.laid.but hb (fun e => h.ap.z _ (.inl rfl) e.symm), h.ap⟩
theorem Tri.enter {w w' : World} {H : Hd} {s : Sta} {X : List Tk} {l : Fo} (h : Tri w H s) (hb : But H.A.Wr w w') (hc : Cat w' H.A H.kn H.mo X l) : Tri w' H { s with X := X, l := l } :=
  ⟨h.d.butN hb (fun e => h.ap.cg _ (wr_all e) rfl) (fun h0 => (h.ap.b h0).2), hc, h.qu.but hb h.ap.q.2 (fun e => h.ap.cq _ (wr_all e) rfl), h.laid.but hb (fun e => h.ap.z 0 (.inr (.inr e)) rfl), h.ap⟩
theorem Tri.count {w w' : World} {H : Hd} {s : Sta} {L : List Int} (h : Tri w H s) (hb : But (fun k => k = H.qb) w w') (hq : Q.Qu w' H.qg H.qb H.e H.a L) : Tri w' H { s with L := L } :=
  ⟨h.d.butN hb h.ap.gq (fun h0 => (h.ap.b h0).1), h.cat.but hb h.ap.cq, hq, h.laid.but hb (fun e => h.ap.z _ (.inr (.inl rfl)) e.symm), h.ap⟩
theorem But.ofG {w w' : World} {H : Hd} (h : But (· = H.g) w w') : But H.Wr w w' := h.mono (fun k hk => .inl hk)
theorem But.ofA {w w' : World} {H : Hd} (h : But H.A.Wr w w') : But H.Wr w w' := h.mono (fun k hk => .inr (.inr hk))
theorem But.ofQ {w w' : World} {H : Hd} (h : But (fun k => k = H.qb) w w') : But H.Wr w w' := h.mono (fun k hk => .inr (.inl hk))

/-! ### The closures -/
/-- Behind a draw. -/
def Drew (U : World) (H : Hd) (s : Sta) (D : Nat × Int × Nat) (e : Ending) (w' : World) : Prop :=
  e = .returned (.tuple #[.agg #[.int .u64 (hiI D.1), .int .u64 (loI D.1)], .int .i64 D.2.1]) ∧ Tri w' H { s with t := D.2.2 } ∧ But (· = H.g) U w'
/-- Behind an entry. -/
def Entered (U : World) (H : Hd) (s : Sta) (R : Res) (e : Ending) (w' : World) : Prop :=
  e = .returned (.tuple #[.int .i64 R.num, .int .i64 R.code]) ∧ Tri w' H { s with X := R.X, l := R.l } ∧ But H.A.Wr U w'
def makV (H : Hd) : Value := .agg #[.pointer (some ⟨H.g, 0, none⟩), .pointer (some ⟨H.A.g, 0, none⟩), .pointer (some ⟨H.qg, 0, none⟩)]
/-- A maker in memory. -/
structure Mk (w : World) (b : Nat) (H : Hd) : Prop where
  c0 : w.cell? ⟨b, 0, none⟩ = some (.pointer (some ⟨H.g, 0, none⟩))
  c1 : w.cell? ⟨b, 1, none⟩ = some (.pointer (some ⟨H.A.g, 0, none⟩))
  c2 : w.cell? ⟨b, 2, none⟩ = some (.pointer (some ⟨H.qg, 0, none⟩))
theorem Mk.but {S : Nat → Prop} {w w' : World} {b : Nat} {H : Hd} (h : Mk w b H) (hb : But S w w') (hn : ¬ S b) : Mk w' b H := ⟨cell_but hb h.c0 hn, cell_but hb h.c1 hn, cell_but hb h.c2 hn⟩
theorem Mk.later {w w' : World} {b : Nat} {H : Hd} (h : Mk w b H) (hb : Below w.heap.size w w') : Mk w' b H := h.but (S := fun _ => False) (But.of hb) (fun h => h)
/-- The draws' Draw, as a value. -/
theorem draw_any {w : World} {H : Hd} {s : Sta} (h : Tri w H s) : Calls Tryz.prog 53 #[.pointer (some ⟨H.g, 0, none⟩)] w (Drew w H s (drawD H.toPar s.t)) := by
  unfold drawD
  by_cases ht : s.t < H.n
  · rw [if_pos ht]
    refine (draw_more H.g H.gb H.n H.c s.t w h.d ht).mono ?_
    rintro e w' ⟨rfl, hd, hb⟩
    exact ⟨rfl, h.draw hb hd, hb⟩
  · rw [if_neg ht]
    have hle := h.d.le
    have he : s.t = H.n := by omega
    have hd := h.d
    rw [he] at hd
    refine (draw_end H.g H.gb H.n H.c w hd).mono ?_
    rintro e w' ⟨rfl, hb⟩
    have z1 : hiI 0 = 0 := by simp [hiI]
    have z2 : loI 0 = 0 := by simp [loI]
    exact ⟨by simp only [z1, z2], h.draw (But.of hb) (h.d.later hb), But.of hb⟩
set_option maxRecDepth 100000 in
set_option maxHeartbeats 1000000 in
/-- root's closure. -/
theorem enter54 {w : World} {H : Hd} {s : Sta} (h : Tri w H s) {mk : Nat} (hm : Mk w mk H) (c : Cp) (hw : c.2.1 < B64 ∧ c.2.2 < B64) :
    Calls Tryz.prog 54 #[cpV c, .pointer (some ⟨mk, 0, none⟩)] w (Entered w H s (rootR H.mo s.X s.l c 31)) := by
  obtain ⟨o, hi, lo⟩ := c
  have hB := below1 w (Obj.cells #[.int .i64 o, .int .u64 (hi : Int), .int .u64 (lo : Int)] 36)
  have y1 := (hm.later hB).c1
  have HC := hid (croot_of (h.later hB).cat (o, hi, lo) 31 hw)
  have HT := hid (h.later hB)
  have HB := hid hB
  clear h hm hB
  go_enter Tryz.func54, Tryz.ntmps54
  go_upto_region 2 with (first | (go_at_call 55; refine HC.out.mono ?_; rintro e w2 ⟨rfl, hc2, hb2⟩; have HC2 := hid hc2; have HB2 := hid hb2; clear hc2 hb2))
  exact bodyPost_ret (v := .tuple #[.int .i64 (rootR H.mo s.X s.l (o, hi, lo) 31).num, .int .i64 (rootR H.mo s.X s.l (o, hi, lo) 31).code]) (by simp [results, Tryz.results54, go_sem]) rfl ⟨rfl, HT.out.enter HB2.out HC2.out, (But.of HB.out).trans HB2.out⟩
set_option maxRecDepth 100000 in
set_option maxHeartbeats 1000000 in
/-- child's closure that draws. -/
theorem draw58 {w : World} {H : Hd} {s : Sta} (h : Tri w H s) (hcs : ∀ i, i < H.n → H.c i < B64 * B64) {mk pc : Nat} (hm : Mk w mk H) (o : Int) (hp : w.cell? ⟨pc, 0, none⟩ = some (.int .i64 o)) :
    Calls Tryz.prog 58 #[.pointer (some ⟨mk, 0, none⟩), .pointer (some ⟨pc, 0, none⟩)] w (Drew w H s (childD H.toPar s o)) := by
  have hB := below1 w (Obj.cells #[.int .u64 0, .int .u64 0] 30)
  have y0 := (hm.later hB).c0
  have y1 := (hm.later hB).c1
  have y2 := cell_later hB hp
  have hg := h.d.lt
  have HO := hid h.old
  have HC := hid (iof_any (h.later hB).d hcs (h.later hB).cat h.ap.cg o)
  have HT := hid (h.later hB)
  have HB := hid hB
  have HL : Hid (Lies (w.alloc (Obj.cells #[.int .u64 0, .int .u64 0] 30)) ⟨w.heap.size, 0, none⟩ (.int .u64 0) ∧ Lies (w.alloc (Obj.cells #[.int .u64 0, .int .u64 0] 30)) ⟨w.heap.size, 1, none⟩ (.int .u64 0)) := ⟨⟨by simp [go_sem], by simp [go_sem]⟩, ⟨by simp [go_sem], by simp [go_sem]⟩⟩
  clear h hm hB hp
  unfold Drew childD
  go_enter Tryz.func58, Tryz.ntmps58
  obtain ⟨R, hR⟩ : ∃ R, R = drawR (ofP s.X s.l o) H.c H.n 9 s.t := ⟨_, rfl⟩
  unfold Drawn at HC
  rw [← hR] at HC
  rw [← hR]
  clear hR
  go_upto_region 2 with (first | (go_at_call 59; refine HC.out.mono ?_; rintro e w2 ⟨rfl, hD, hB⟩; have HD := hid hD; have HB2 := hid hB; have HL2 : Hid (Lies w2 ⟨w.heap.size, 0, none⟩ (.int .u64 0) ∧ Lies w2 ⟨w.heap.size, 1, none⟩ (.int .u64 0)) := ⟨HL.out.1.but hB (by show ¬ (w.heap.size = H.g); omega), HL.out.2.but hB (by show ¬ (w.heap.size = H.g); omega)⟩; clear hD hB; have x0 := HL2.out.1.1; have x1 := HL2.out.2.1; have f0 := HL2.out.1.2; have f1 := HL2.out.2.2))
  have HQ := hid (two_set x0 x1 (.int .u64 (hiI R.1)) (.int .u64 (loI R.1)))
  have hbb := ((((But.of HB.out).trans HB2.out).put (p := ⟨w.heap.size, 0, none⟩) (Nat.le_refl _) (.int .u64 (hiI R.1))).put (p := ⟨w.heap.size, 1, none⟩) (Nat.le_refl _) (.int .u64 (loI R.1)))
  have hfin : Tri ((w2.setCell ⟨w.heap.size, 0, none⟩ (.int .u64 (hiI R.1))).setCell ⟨w.heap.size, 1, none⟩ (.int .u64 (loI R.1))) H { s with t := R.2.2 } := ((HT.out.draw HB2.out HD.out).own HO.out 0 _).own HO.out 1 _
  exact bodyPost_ret (v := .tuple #[.agg #[.int .u64 (hiI R.1), .int .u64 (loI R.1)], .int .i64 R.2.1]) (by simp [results, Tryz.results58, go_sem, HQ.out.1, HQ.out.2]) rfl ⟨rfl, hfin, hbb⟩
set_option maxRecDepth 100000 in
set_option maxHeartbeats 1000000 in
/-- child's closure that enters. -/
theorem enter60 {w : World} {H : Hd} {s : Sta} (h : Tri w H s) {mk nb rb : Nat} (hm : Mk w mk H) (n r : Int) (hn : w.cell? ⟨nb, 0, none⟩ = some (.int .i64 n)) (hr : w.cell? ⟨rb, 0, none⟩ = some (.int .i64 r)) (c : Cp) (hw : c.2.1 < B64 ∧ c.2.2 < B64) :
    Calls Tryz.prog 60 #[cpV c, .pointer (some ⟨mk, 0, none⟩), .pointer (some ⟨nb, 0, none⟩), .pointer (some ⟨rb, 0, none⟩)] w (Entered w H s (childR H.mo s.X s.l n c r)) := by
  obtain ⟨o, hi, lo⟩ := c
  have hB := below1 w (Obj.cells #[.int .i64 o, .int .u64 (hi : Int), .int .u64 (lo : Int)] 36)
  have y1 := (hm.later hB).c1
  have y2 := cell_later hB hn
  have y3 := cell_later hB hr
  have HC := hid (child_of (h.later hB).cat n (o, hi, lo) r hw)
  have HT := hid (h.later hB)
  have HB := hid hB
  clear h hm hB hn hr
  go_enter Tryz.func60, Tryz.ntmps60
  go_upto_region 2 with (first | (go_at_call 61; refine HC.out.mono ?_; rintro e w2 ⟨rfl, hc2, hb2⟩; have HC2 := hid hc2; have HB2 := hid hb2; clear hc2 hb2))
  exact bodyPost_ret (v := .tuple #[.int .i64 (childR H.mo s.X s.l n (o, hi, lo) r).num, .int .i64 (childR H.mo s.X s.l n (o, hi, lo) r).code]) (by simp [results, Tryz.results60, go_sem]) rfl ⟨rfl, HT.out.enter HB2.out HC2.out, (But.of HB.out).trans HB2.out⟩
end Go.Proofs.YtgihdchgdejkhaaGreatDoor.D
