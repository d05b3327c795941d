import Derived.Test.YthfmmfphnimlnaaJY
namespace Go.Proofs.Ythfmmfphnimlnaa
open Go.RowKit
set_option linter.unusedVariables false
set_option linter.unusedSimpArgs false
theorem rdL_all {α : Type} {f : Qs → α × Qs} {P : α → Prop} {I : Qs → Prop} (hf : ∀ q, I q → P (f q).1 ∧ I (f q).2) : ∀ n q, I q → (∀ x ∈ (rdL f n q).1, P x) ∧ I (rdL f n q).2
  | 0, q, h => ⟨fun x hx => absurd hx (by simp [rdL]), h⟩
  | n + 1, q, h => by
    obtain ⟨h1, h2⟩ := hf q h
    obtain ⟨h3, h4⟩ := rdL_all hf n (f q).2 h2
    refine ⟨fun x hx => ?_, h4⟩
    rcases List.mem_cons.1 hx with hx | hx
    · rw [hx]; exact h1
    · exact h3 x hx
/-- What is yet to be read are bytes, and not too many. -/
def Iq (q : Qs) : Prop := (∀ x ∈ q.1, x < 256) ∧ q.1.length ≤ 140737488355328
theorem iq_nm {q : Qs} (k m : Int) (h : Iq q) : Iq (nmS q k m) := ⟨nm_sm h.1, Nat.le_trans (nm_len q k m) h.2⟩
theorem iq_rw {q : Qs} (k : Int) (h : Iq q) : Iq (rwS q k) := ⟨rw_sm h.1, Nat.le_trans (rw_len q k) h.2⟩
theorem iq_cp {q : Qs} (h : Iq q) : Iq (cpS q) := ⟨cp_sm h.1, Nat.le_trans (cp_len q) h.2⟩
theorem iq_hd {q : Qs} (h : Iq q) : Iq (hdS q) := iq_rw (q := q) 8 h
theorem iq_cS {q : Qs} (h : Iq q) : ∀ n, Iq (cS q n)
  | 0 => h
  | n + 1 => iq_nm 2 65535 (iq_cS h n)
theorem iq_cf {q : Qs} (h : Iq q) : Iq (cfS q) := iq_cS h 10
theorem iq_ls {q : Qs} (h : Iq q) : (∀ x ∈ lsV q, x.ok) ∧ Iq (lsS q) := rdL_all (f := rdC) (P := Cp.ok) (I := Iq) (fun q h => ⟨(cp_ok h.1).1, iq_cp h⟩) _ _ (iq_nm 1 32 h)
theorem iq_ob {q : Qs} (h : Iq q) : (∀ x ∈ obV q, x.b.length ≤ 140737488355328) ∧ Iq (obS2 q) := rdL_all (f := rdO) (P := fun o => o.b.length ≤ 140737488355328) (I := Iq) (fun q h => ⟨by show ((oq2 q).1.take _).length ≤ _; have h2 : Iq (oq2 q) := iq_nm 2 4096 (iq_nm 8 MI h); rw [List.length_take]; have := h2.2; omega, iq_rw _ (iq_nm 2 4096 (iq_nm 8 MI h))⟩) _ _ (iq_nm 2 64 h)
theorem iq_tz {q : Qs} (h : Iq q) : (∀ x ∈ tzV q, x.c.ok) ∧ Iq (tzS q) := rdL_all (f := rdT) (P := fun t => t.c.ok) (I := Iq) (fun q h => ⟨(cp_ok h.1).1, iq_nm 2 65535 (iq_nm 1 255 (iq_cp h))⟩) _ _ (iq_nm 2 256 h)
theorem iq_pz {q : Qs} (h : Iq q) : (∀ p ∈ pzV q, ∀ x ∈ p.l, x.ok) ∧ Iq (pzS q) := rdL_all (f := rdP) (P := fun p => ∀ x ∈ p.l, x.ok) (I := Iq) (fun q h => ⟨(iq_ls (iq_nm 2 65535 h)).1, (iq_ls (iq_nm 2 65535 h)).2⟩) _ _ (iq_nm 2 32 h)
theorem iq_s3 {q : Qs} (h : Iq q) : Iq (s3 q) := iq_nm 2 65535 (iq_nm 4 65536 (iq_nm 8 _ h))
theorem len2 {α : Type} (Q : List (α × Sl)) (e : α × Sl → List Value) (he : ∀ q, (e q).length = 2) : ∀ x ∈ Q.map e, x.length = 2 := by
  intro x hx
  obtain ⟨q, _, rfl⟩ := List.mem_map.1 hx
  exact he q
/-- What was read is a state in memory. -/
theorem sm_of {w : World} {base : Nat} {q : Qs} (hq : Iq q) {a b c : Sl} {Q : List (Ob × Sl)} {R : List (Pc × Sl)} (h1 : a.n ≤ 64) (h2 : b.n ≤ 256) (h3 : c.n ≤ 32) (h4 : Q.map Prod.fst = (sV q).O) (h5 : R.map Prod.fst = (sV q).P) (ho : ObO w base a.a a.n a.c Q) (ht : Ow w base 67 5 b.a b.n b.c ((sV q).T.map encT).flatten) (hp : PrO w base c.a c.n c.c R) : Sm w (sV q) a b c Q R := by
  have i3 := iq_s3 hq
  have eT : (sV q).T = tzV (obS2 (s3 q)) := by rw [sV]
  have eO : (sV q).O = obV (s3 q) := by rw [sV]
  have eP : (sV q).P = pzV (tzS (obS2 (s3 q))) := by rw [sV]
  generalize sV q = S at *
  have io := iq_ob i3
  have it := iq_tz io.2
  have ip := iq_pz it.2
  have hQ : ∀ p ∈ Q, p.1 ∈ obV (s3 q) := fun p hp => by
    have : p.1 ∈ Q.map Prod.fst := List.mem_map.2 ⟨p, hp, rfl⟩
    rw [h4, eO] at this
    exact this
  have hR : ∀ p ∈ R, p.1 ∈ pzV (tzS (obS2 (s3 q))) := fun p hp => by
    have : p.1 ∈ R.map Prod.fst := List.mem_map.2 ⟨p, hp, rfl⟩
    rw [h5, eP] at this
    exact this
  refine ⟨h4, ho.row.at_ (len2 Q encO (fun _ => rfl)) (Nat.succ_pos _), fun p hp => (ho.each p hp).read, ht.at_ (fun x hx => by obtain ⟨y, _, rfl⟩ := List.mem_map.1 hx; rfl) (Nat.succ_pos _), h5, hp.row.at_ (len2 R encP (fun _ => rfl)) (Nat.succ_pos _), fun p hq => (hp.each p hq).2.at_ (fun x hx => by obtain ⟨y, _, rfl⟩ := List.mem_map.1 hx; rfl) (Nat.succ_pos _), fun x hx => it.1 x (by rw [← eT]; exact hx), fun p hq => ip.1 p.1 (hR p hq), by omega, by omega, by omega, fun p hq => ?_, fun p hq => by have := (hp.each p hq).1; omega⟩
  rw [← (ho.each p hq).len]
  exact io.1 p.1 (hQ p hq)
def pa1 (L : List Nat) : Qs := hdS (L, false)
def pa2 (L : List Nat) : Qs := cfS (pa1 L)
def paC (L : List Nat) : Cf := cfV (pa1 L)
def paS (L : List Nat) : St := sV (pa2 L)
def paE (L : List Nat) : Qs := sS (pa2 L)
/-- Are these bytes an image's? -/
def paB (L : List Nat) : Bool := (!(paE L).2 && decide ((paE L).1 = [])) && decide (chk (paC L) (paS L) 4096 = 0)
def cf0 : Cf := ⟨0, 0, 0, 0, 0, 0, 0, 0, 0, 0⟩
abbrev sl0 : Sl := ⟨none, 0, 0⟩
end Go.Proofs.Ythfmmfphnimlnaa
namespace Go.Proofs.Ythfmmfphnimlnaa
open Go.RowKit
set_option linter.unusedVariables false
set_option linter.unusedSimpArgs false
theorem wp_st {P : Program} {w w' : World} {o : Oper} {a : Act} {K : Act → World → Prop} {Q : Exit → Act → World → Prop} {ty : TypeId} {x y : Operand} {p v : Value} (ho : o.op = .store ty x y) (hx : a.eval x = p) (hy : a.eval y = v) (hr : (Instr.storeAt ty p v).run P w = .ok () w') (h : K (a.put o.dst undef) w') : o.wp P a w K Q := by
  unfold Oper.wp execOp
  simp only [ho, hx, hy, hr, Sem.run_bind, Sem.run_pure, Result.andThen_ok]
  exact h
/-- Two results in boxes are written. -/
theorem two_res {w V : World} (hV : Below w.heap.size w V) {Z1 Z2 L1 L2 : List Value} (h1 : Bx V w.heap.size Z1) (h2 : Bx V (w.heap.size + 1) Z2) (e1 : L1.length = 10) (e2 : L2.length = 6) (z1 : Z1.length = 10) (z2 : Z2.length = 6) (o1 : ∀ v ∈ L1, v.oneCell' = true) (o2 : ∀ v ∈ L2, v.oneCell' = true) :
    ∃ V5 V6, (Instr.storeAt 23 (.pointer (some ⟨w.heap.size, 0, none⟩)) (.agg L1.toArray)).run Try.prog V = .ok () V5 ∧ (Instr.storeAt 28 (.pointer (some ⟨w.heap.size + 1, 0, none⟩)) (.agg L2.toArray)).run Try.prog V5 = .ok () V6 ∧ (loadVar 23 ⟨w.heap.size, 0, none⟩).run Try.prog V6 = .ok (.agg L1.toArray) V6 ∧ (loadVar 28 ⟨w.heap.size + 1, 0, none⟩).run Try.prog V6 = .ok (.agg L2.toArray) V6 ∧ Below w.heap.size w V6 ∧ But (fun k => k = w.heap.size ∨ k = w.heap.size + 1) V V6 ∧ But (fun k => k = w.heap.size ∨ k = w.heap.size + 1) V V5 := by
  have b1 : But (fun k => k = w.heap.size ∨ k = w.heap.size + 1) V (V.setCells w.heap.size 0 L1) := setCells_but (S := fun k => k = w.heap.size ∨ k = w.heap.size + 1) (.inl rfl) _ 0 (But.refl _ _)
  have b1' : But (fun k => k = w.heap.size) V (V.setCells w.heap.size 0 L1) := setCells_but (S := fun k => k = w.heap.size) rfl _ 0 (But.refl _ _)
  have b2' : But (fun k => k = w.heap.size + 1) (V.setCells w.heap.size 0 L1) ((V.setCells w.heap.size 0 L1).setCells (w.heap.size + 1) 0 L2) := setCells_but (S := fun k => k = w.heap.size + 1) rfl _ 0 (But.refl _ _)
  have b2 : But (fun k => k = w.heap.size ∨ k = w.heap.size + 1) (V.setCells w.heap.size 0 L1) ((V.setCells w.heap.size 0 L1).setCells (w.heap.size + 1) 0 L2) := b2'.mono (fun k hk => .inr hk)
  have x1 := h1.set (M := L1) (by omega)
  have x2 := h2.but b1' (by omega)
  have y2 := x2.set (M := L2) (by omega)
  have y1 := x1.but b2' (by omega)
  exact ⟨_, _, stF (by have := h1.there; rwa [z1] at this) e1 o1, stS (by have := x2.there; rwa [z2] at this) e2 o2, lvF y1.range e1, lvS y2.range e2, But.below hV (b1.trans b2) (fun k hk => by omega), b1.trans b2, b1⟩
theorem Sm.but {S : Nat → Prop} {w w' : World} {a b c : Sl} {Q : List (Ob × Sl)} {R : List (Pc × Sl)} {base : Nat} (hb : But S w w') (hS : ∀ k, base ≤ k → ¬ S k) {q : Qs} (hq : Iq q) (h1 : a.n ≤ 64) (h2 : b.n ≤ 256) (h3 : c.n ≤ 32) (h4 : Q.map Prod.fst = (sV q).O) (h5 : R.map Prod.fst = (sV q).P) (ho : ObO w base a.a a.n a.c Q) (ht : Ow w base 67 5 b.a b.n b.c ((sV q).T.map encT).flatten) (hp : PrO w base c.a c.n c.c R) : Sm w' (sV q) a b c Q R :=
  sm_of hq h1 h2 h3 h4 h5 (ho.but hb (fun k hk _ => hS k hk)) (TkO.but ht hb (fun k hk _ => hS k hk)) (hp.but hb (fun k hk _ => hS k hk))
theorem first_ne {x : Bool} (h : x = false) (y : Bool) : ¬ ((x && y) = true) := by rw [h]; simp
set_option maxRecDepth 100000 in
set_option maxHeartbeats 4000000 in
theorem parse_any (ra : Option Addr) (rn rc : Nat) (L : List Nat) (w : World) (h : Row w ra rn rc L) (hn : rn ≤ 140737488355328) :
    Calls Try.prog 11 #[.slice ra rn rc] w fun x w' => Below w.heap.size w w' ∧ (paB L = true → ∃ a b d Q R, x = .returned (.tuple #[(paC L).v, stV a b d (paS L).nx (paS L).px (paS L).ta, .int .i64 0]) ∧ Sm w' (paS L) a b d Q R) ∧ (paB L = false → x = .returned (.tuple #[cf0.v, stV sl0 sl0 sl0 0 0 0, .int .i64 21])) := by
  obtain ⟨W, hW⟩ : ∃ W, W = (w.alloc (Obj.cells #[.int .i64 0, .int .i64 0, .int .i64 0, .int .i64 0, .int .i64 0, .int .i64 0, .int .i64 0, .int .i64 0, .int .i64 0, .int .i64 0] 23)).alloc (Obj.cells #[.slice none 0 0, .slice none 0 0, .slice none 0 0, .int .i64 0, .int .i64 0, .int .i64 0] 28) := ⟨_, rfl⟩
  have hB : Below w.heap.size w W := by rw [hW]; exact below2 _ _ _
  have HX0 : Hid (Bx W w.heap.size [.int .i64 0, .int .i64 0, .int .i64 0, .int .i64 0, .int .i64 0, .int .i64 0, .int .i64 0, .int .i64 0, .int .i64 0, .int .i64 0]) := by rw [hW]; exact (Bx.new w [.int .i64 0, .int .i64 0, .int .i64 0, .int .i64 0, .int .i64 0, .int .i64 0, .int .i64 0, .int .i64 0, .int .i64 0, .int .i64 0] _).later (below1 _ _)
  have HX1 : Hid (Bx W (w.heap.size + 1) [.slice none 0 0, .slice none 0 0, .slice none 0 0, .int .i64 0, .int .i64 0, .int .i64 0]) := by rw [hW]; have := Bx.new (w.alloc (Obj.cells #[.int .i64 0, .int .i64 0, .int .i64 0, .int .i64 0, .int .i64 0, .int .i64 0, .int .i64 0, .int .i64 0, .int .i64 0, .int .i64 0] 23)) [.slice none 0 0, .slice none 0 0, .slice none 0 0, .int .i64 0, .int .i64 0, .int .i64 0] 28; simp at this; exact this
  have HWz : Hid (W.heap.size = w.heap.size + 2) := by unfold Hid; rw [hW]; simp
  have HNR := hid (newReader_any ra rn rc L W (h.later hB) hn)
  have HIq : Hid (Iq (L, false)) := ⟨h.small, by show L.length ≤ _; rw [h.len]; exact hn⟩
  have HB := hid hB
  have HW := hid hW
  unfold paB
  have HHd := hid head_any
  have HCf := hid config_any
  have HSt := hid state_any
  have HEn := hid ended_any
  have HCk := hid check_any
  have HI1 : Hid (Iq (pa1 L)) := iq_hd HIq.out
  have HI2 : Hid (Iq (pa2 L)) := iq_cf HI1.out
  have HH1 : Hid (∀ r g gb U, Ry U r g gb (L, false) → Calls Try.prog 30 #[.pointer (some ⟨r, 0, none⟩)] U fun x w' => x = .returned (.tuple #[]) ∧ Ry w' r g gb (pa1 L) ∧ But (RN r g) U w') := fun r g gb U hU => HHd.out r g gb (L, false) U hU HIq.out.2
  have HH2 : Hid (∀ r g gb U, Ry U r g gb (pa1 L) → Calls Try.prog 31 #[.pointer (some ⟨r, 0, none⟩)] U fun x w' => x = .returned (paC L).v ∧ Ry w' r g gb (pa2 L) ∧ But (RN r g) U w') := fun r g gb U hU => HCf.out r g gb (pa1 L) U hU
  have HH3 : Hid (∀ r g gb U, Ry U r g gb (pa2 L) → Calls Try.prog 32 #[.pointer (some ⟨r, 0, none⟩)] U fun x w' => ∃ a b c Q R, x = .returned (stV a b c (paS L).nx (paS L).px (paS L).ta) ∧ a.n ≤ 64 ∧ b.n ≤ 256 ∧ c.n ≤ 32 ∧ Q.map Prod.fst = (paS L).O ∧ R.map Prod.fst = (paS L).P ∧ (paS L).T.length = b.n ∧ ObO w' U.heap.size a.a a.n a.c Q ∧ Ow w' U.heap.size 67 5 b.a b.n b.c ((paS L).T.map encT).flatten ∧ PrO w' U.heap.size c.a c.n c.c R ∧ Ry w' r g gb (paE L) ∧ But (RN r g) U w') := fun r g gb U hU => HSt.out r g gb (pa2 L) U hU HI2.out.2
  have HSm : Hid (∀ (S : Nat → Prop) (U U' : World) (base : Nat) (a b c : Sl) (Q : List (Ob × Sl)) (R : List (Pc × Sl)), But S U U' → (∀ k, base ≤ k → ¬ S k) → a.n ≤ 64 → b.n ≤ 256 → c.n ≤ 32 → Q.map Prod.fst = (paS L).O → R.map Prod.fst = (paS L).P → ObO U base a.a a.n a.c Q → Ow U base 67 5 b.a b.n b.c ((paS L).T.map encT).flatten → PrO U base c.a c.n c.c R → Sm U' (paS L) a b c Q R) := fun S U U' base a b c Q R hb hS g1 g2 g3 g4 g5 g6 g7 g8 => Sm.but hb hS HI2.out g1 g2 g3 g4 g5 g6 g7 g8
  generalize paE L = qE at HH3 ⊢
  generalize paS L = s at HH3 HSm ⊢
  generalize paC L = c at HH2 ⊢
  generalize pa2 L = q2 at HH2 HH3
  generalize pa1 L = q1 at HH1 HH2
  clear h hn hB hW HIq HI1 HI2 HHd HCf HSt
  go_enter Try.func11, Try.ntmps11
  go_upto_region 1 with fail
  rw [← HW.out]
  go_upto_region 2 with (first | (go_at_call 29; refine HNR.out.mono ?_; rintro x w1 ⟨g, gb, rfl, hrd, hg, hgb, hb1⟩; have HRd := hid hrd; have HG := hid (And.intro hg hgb); have HB1 := hid hb1; clear hrd hg hgb hb1))
  obtain ⟨V1, hV1⟩ : ∃ V, V = w1.alloc (Obj.cells #[.pointer (some ⟨g, 0, none⟩), .bool false] 74) := ⟨_, rfl⟩
  rw [← hV1]
  have HBv1 : Hid (Below w1.heap.size w1 V1) := by rw [hV1]; exact below1 _ _
  have HRy : Hid (Ry V1 w1.heap.size g gb (L, false)) := by
    refine ⟨?_, ?_, ?_, ?_, ?_⟩
    · rw [hV1]; simp [go_sem]
    · rw [hV1]; exact ⟨by simp [go_sem], by simp [go_sem]⟩
    · exact HRd.out.but2 (S := fun _ => False) (But.of HBv1.out) (fun h => h) (fun _ h => h)
    · have := HRd.out.gl; omega
    · intro hR; have := HRd.out.gb hR; omega
  have HBW : Hid (Below W.heap.size W V1) := below_call HB1.out HBv1.out
  obtain ⟨r, hr⟩ : ∃ r, r = w1.heap.size := ⟨_, rfl⟩
  have HGr : Hid (W.heap.size ≤ r ∧ W.heap.size ≤ g) := ⟨by rw [hr]; exact HB1.out.size, HG.out.1⟩
  rw [← hr] at HRy ⊢
  clear hV1 HBv1 HRd HB1 hr HNR
  go_upto_region 3 with (first | (go_at_call 30; refine (HH1.out _ _ _ _ HRy.out).mono ?_; rintro x w2 ⟨rfl, hr2, hb2⟩; have HR2 := hid hr2; have HB2 : Hid (Below W.heap.size W w2) := But.below HBW.out hb2 (fun k hk => by have := HGr.out; rcases hk with rfl | rfl <;> omega); clear hr2 hb2))
  go_upto_region 4 with (first | (go_at_call 31; refine (HH2.out _ _ _ _ HR2.out).mono ?_; rintro x w3 ⟨rfl, hr3, hb3⟩; have HR3 := hid hr3; have HB3 : Hid (Below W.heap.size W w3) := But.below HB2.out hb3 (fun k hk => by have := HGr.out; rcases hk with rfl | rfl <;> omega); clear hr3 hb3))
  obtain ⟨V3, hV3⟩ : ∃ V, V = w3.alloc (Obj.cells #[.int .i64 c.w, .int .i64 c.o, .int .i64 c.p, .int .i64 c.e, .int .i64 c.q, .int .i64 c.r, .int .i64 c.l, .int .i64 c.s, .int .i64 c.y, .int .i64 c.k] 23) := ⟨_, rfl⟩
  rw [← hV3]
  have HBv3 : Hid (Below w3.heap.size w3 V3) := by rw [hV3]; exact below1 _ _
  have HX6 : Hid (Bx V3 w3.heap.size c.L) := by rw [hV3]; exact Bx.new w3 c.L _
  have HR3v := hid (HR3.out.later HBv3.out)
  have HB3v : Hid (Below W.heap.size W V3) := below_call HB3.out HBv3.out
  obtain ⟨b6, hb6⟩ : ∃ b, b = w3.heap.size := ⟨_, rfl⟩
  have H6 : Hid (W.heap.size ≤ b6 ∧ b6 < V3.heap.size ∧ ¬ RN r g b6) := by
    have h6 : r < w3.heap.size ∧ g < w3.heap.size := ⟨World.block_lt_of_cell? _ _ HR3.out.c0, HR3.out.rd.gl⟩
    exact ⟨by rw [hb6]; exact HB3.out.size, by rw [hb6, hV3]; simp, fun hk => by rcases hk with hk | hk <;> omega⟩
  rw [← hb6] at HX6 ⊢
  clear hV3 HBv3 HR3 HB3 hb6 HRy HBW HR2 HB2
  go_upto_region 5 with (first | (go_at_call 32; refine (HH3.out _ _ _ _ HR3v.out).mono ?_; rintro x w4 ⟨a, b, d, Q, R, rfl, g1, g2, g3, g4, g5, -, g6, g7, g8, hr4, hb4⟩; have HR4 := hid hr4; have HB4 : Hid (Below W.heap.size W w4) := But.below HB3v.out hb4 (fun k hk => by have := HGr.out; rcases hk with rfl | rfl <;> omega); have HX64 := hid (HX6.out.but hb4 H6.out.2.2); have HSm4 : Hid (∀ (S : Nat → Prop) U', But S w4 U' → (∀ k, V3.heap.size ≤ k → ¬ S k) → Sm U' s a b d Q R) := fun S U' hb hS => HSm.out S w4 U' _ a b d Q R hb hS g1 g2 g3 g4 g5 g6 g7 g8; clear g1 g2 g3 g4 g5 g6 g7 g8 hr4 hb4))
  obtain ⟨V4, hV4⟩ : ∃ V, V = w4.alloc (Obj.cells #[.slice a.a a.n a.c, .slice b.a b.n b.c, .slice d.a d.n d.c, .int .i64 s.nx, .int .i64 s.px, .int .i64 s.ta] 28) := ⟨_, rfl⟩
  rw [← hV4]
  have HBv4 : Hid (Below w4.heap.size w4 V4) := by rw [hV4]; exact below1 _ _
  have HX7 : Hid (Bx V4 w4.heap.size [.slice a.a a.n a.c, .slice b.a b.n b.c, .slice d.a d.n d.c, .int .i64 s.nx, .int .i64 s.px, .int .i64 s.ta]) := by rw [hV4]; exact Bx.new w4 [.slice a.a a.n a.c, .slice b.a b.n b.c, .slice d.a d.n d.c, .int .i64 s.nx, .int .i64 s.px, .int .i64 s.ta] _
  have HX6v := hid (HX64.out.later HBv4.out)
  have HBV : Hid (Below W.heap.size W V4) := below_call HB4.out HBv4.out
  have HE4 := hid (HEn.out r g gb qE V4 (HR4.out.later HBv4.out))
  have HCk4 := hid (HCk.out c s a b d Q R V4 (HSm4.out (fun _ => False) V4 (But.of HBv4.out) (fun _ _ h => h)) 4096)
  obtain ⟨b7, hb7⟩ : ∃ b, b = w4.heap.size := ⟨_, rfl⟩
  have H7 : Hid (W.heap.size ≤ b7) := by unfold Hid; rw [hb7]; exact HB4.out.size
  rw [← hb7] at HX7 ⊢
  clear hV4 hb7 HR4 HB4 HX64 HX6 HR3v HB3v HEn HCk
  have HRB := hid (below_call HB.out HBV.out)
  cases he : (!qE.2 && decide (qE.1 = [])) with
  | false =>
    rw [he] at HE4
    obtain ⟨V5, V6, hs1, hs2, hl1, hl2, hb6, hbt, hbt5⟩ := two_res (L1 := [.int .i64 0, .int .i64 0, .int .i64 0, .int .i64 0, .int .i64 0, .int .i64 0, .int .i64 0, .int .i64 0, .int .i64 0, .int .i64 0]) (L2 := [.slice none 0 0, .slice none 0 0, .slice none 0 0, .int .i64 0, .int .i64 0, .int .i64 0]) HRB.out (HX0.out.later HBV.out) (HX1.out.later HBV.out) rfl rfl rfl rfl (cf_one cf0) (st_one sl0 sl0 sl0 0 0 0)
    have HS1 := hid hs1
    have HS2 := hid hs2
    have HF := hid hb6
    clear hs1 hs2 hb6 hbt hbt5
    go_wp2_with (first | (go_at_call 33; refine HE4.out.mono ?_; rintro x w5 ⟨rfl, rfl⟩) | ((with_reducible refine st_arm HS1.out ?_ ?_ ?_); (· rfl); (· rfl)) | ((with_reducible refine st_arm HS2.out ?_ ?_ ?_); (· rfl); (· rfl)))
    exact bodyPost_ret (v := .tuple #[cf0.v, stV sl0 sl0 sl0 0 0 0, .int .i64 21]) (by simp [results, Try.results11, asAddr, Act.put, hl1, hl2, cf0]) rfl ⟨HF.out, (fun e => absurd e (first_ne he _)), fun _ => rfl⟩
  | true =>
    rw [he] at HE4
    have HLD6 : Hid ((Instr.loadAt 23 (.pointer (some ⟨b6, 0, none⟩))).run Try.prog V4 = .ok c.v V4) := ldF HX6v.out.range rfl
    have HLD7 : Hid ((Instr.loadAt 28 (.pointer (some ⟨b7, 0, none⟩))).run Try.prog V4 = .ok (stV a b d s.nx s.px s.ta) V4) := ldS HX7.out.range rfl
    by_cases hk : chk c s 4096 = 0
    · have HZ := hid hk
      have HCk5 : Hid (Calls Try.prog 9 #[c.v, stV a b d s.nx s.px s.ta, .int .i64 4096] V4 fun e w' => e = .returned (.int .i64 0) ∧ Below V4.heap.size V4 w') := by
        unfold Hid
        have := HCk4.out
        rw [hk] at this
        exact this
      clear hk HCk4
      go_upto_region 7 with (first | (go_at_call 33; refine HE4.out.mono ?_; rintro x w5 ⟨rfl, rfl⟩) | ((with_reducible refine ld_armg HLD6.out ?_ ?_ ?_); (· rfl); (· rfl)) | ((with_reducible refine ld_armg HLD7.out ?_ ?_ ?_); (· rfl); (· rfl)) | (go_at_call 9; refine HCk5.out.mono ?_; rintro x w6 ⟨rfl, hbk⟩; have HBK := hid hbk; clear hbk))
      have HBK2 : Hid (Below w5.heap.size w5 w6.drew) := below_call HBK.out (Below.refl _ _).drew
      obtain ⟨V5, V6, hs1, hs2, hl1, hl2, hb6, hbt, hbt5⟩ := two_res (L1 := [.int .i64 c.w, .int .i64 c.o, .int .i64 c.p, .int .i64 c.e, .int .i64 c.q, .int .i64 c.r, .int .i64 c.l, .int .i64 c.s, .int .i64 c.y, .int .i64 c.k]) (L2 := [.slice a.a a.n a.c, .slice b.a b.n b.c, .slice d.a d.n d.c, .int .i64 s.nx, .int .i64 s.px, .int .i64 s.ta]) (V := w6.drew) (below_call HRB.out HBK2.out) ((HX0.out.later HBV.out).later HBK2.out) ((HX1.out.later HBV.out).later HBK2.out) rfl rfl rfl rfl (cf_one c) (st_one a b d s.nx s.px s.ta)
      have HS1 := hid hs1
      have HS2 := hid hs2
      have HF := hid hb6
      have HS5 : Hid (V5.rangeAt b6 0 [.int .i64 c.w, .int .i64 c.o, .int .i64 c.p, .int .i64 c.e, .int .i64 c.q, .int .i64 c.r, .int .i64 c.l, .int .i64 c.s, .int .i64 c.y, .int .i64 c.k] ∧ V5.rangeAt b7 0 [.slice a.a a.n a.c, .slice b.a b.n b.c, .slice d.a d.n d.c, .int .i64 s.nx, .int .i64 s.px, .int .i64 s.ta]) := ⟨((HX6v.out.later HBK2.out).but hbt5 (fun e => by have := H6.out.1; have := HWz.out; omega)).range, ((HX7.out.later HBK2.out).but hbt5 (fun e => by have := H7.out; have := HWz.out; omega)).range⟩
      have HS6 : Hid (V6.rangeAt b6 0 [.int .i64 c.w, .int .i64 c.o, .int .i64 c.p, .int .i64 c.e, .int .i64 c.q, .int .i64 c.r, .int .i64 c.l, .int .i64 c.s, .int .i64 c.y, .int .i64 c.k] ∧ V6.rangeAt b7 0 [.slice a.a a.n a.c, .slice b.a b.n b.c, .slice d.a d.n d.c, .int .i64 s.nx, .int .i64 s.px, .int .i64 s.ta]) := ⟨((HX6v.out.later HBK2.out).but hbt (fun e => by have := H6.out.1; have := HWz.out; omega)).range, ((HX7.out.later HBK2.out).but hbt (fun e => by have := H7.out; have := HWz.out; omega)).range⟩
      have HSmF : Hid (Sm V6 s a b d Q R) := HSm4.out _ V6 ((But.of (S := fun k => k = w.heap.size ∨ k = w.heap.size + 1) (below_call HBv4.out HBK2.out)).trans hbt) (fun k hk e => by have := H6.out; have := HWz.out; omega)
      clear hs1 hs2 hb6 hbt hbt5
      refine wp_region_held_drew (S := (fun U : World => U.rangeAt b6 0 [.int .i64 c.w, .int .i64 c.o, .int .i64 c.p, .int .i64 c.e, .int .i64 c.q, .int .i64 c.r, .int .i64 c.l, .int .i64 c.s, .int .i64 c.y, .int .i64 c.k] ∧ U.rangeAt b7 0 [.slice a.a a.n a.c, .slice b.a b.n b.c, .slice d.a d.n d.c, .int .i64 s.nx, .int .i64 s.px, .int .i64 s.ta])) (by kernel_rfl) ⟨(HX6v.out.later HBK2.out).range, (HX7.out.later HBK2.out).range⟩ (fun hHeld => ?_)
      refine wpAnyH_norm (l2 := #[false, false, false, false, false]) (f2 := 5) (by kernel_rfl) (by kernel_rfl) ?_
      refine wpAnyH_take (i := 0) (oi := _) (v := c.v) rfl (by kernel_rfl) (by kernel_rfl) (by kernel_rfl) (fun _ _ _ h => h) (Or.inl ⟨by rfl, ?_⟩) (by assumption) ?_
      · (intro w hSw; exact ex_ld rfl rfl (ldF hSw.1 rfl))
      simp only [List.getElem_toArray, List.getElem_cons_succ, List.getElem_cons_zero, Act.put, List.setIfInBounds_toArray, List.set_cons_zero, List.set_cons_succ]
      refine wpAnyH_norm (l2 := #[true, false, false, false, false]) (f2 := 4) (by kernel_rfl) (by kernel_rfl) ?_
      refine wpAnyH_take (i := 1) (oi := _) (v := stV a b d s.nx s.px s.ta) rfl (by kernel_rfl) (by kernel_rfl) (by kernel_rfl) (fun _ _ _ h => h) (Or.inl ⟨by rfl, ?_⟩) (by assumption) ?_
      · (intro w hSw; exact ex_ld rfl rfl (ldS hSw.2 rfl))
      simp only [List.getElem_toArray, List.getElem_cons_succ, List.getElem_cons_zero, Act.put, List.setIfInBounds_toArray, List.set_cons_zero, List.set_cons_succ]
      refine wpAnyH_norm (l2 := #[true, true, false, false, false]) (f2 := 3) (by kernel_rfl) (by kernel_rfl) ?_
      refine wpAnyH_ready (rs := [2]) (by kernel_rfl) (by simp) ?_
      refine AllReadyH.cons rfl (fun K hK => ?_) AllReadyH.nil
      refine wp_st rfl rfl rfl HS1.out ?_
      refine hK.out _ _ HS5.out (fun hHeld => ?_)
      clear hK K
      simp only [List.getElem_toArray, List.getElem_cons_succ, List.getElem_cons_zero, Act.put, List.setIfInBounds_toArray, List.set_cons_zero, List.set_cons_succ]
      refine wpAnyH_norm (l2 := #[true, true, true, false, false]) (f2 := 2) (by kernel_rfl) (by kernel_rfl) ?_
      refine wpAnyH_ready (rs := [3]) (by kernel_rfl) (by simp) ?_
      refine AllReadyH.cons rfl (fun K hK => ?_) AllReadyH.nil
      refine wp_st rfl rfl rfl HS2.out ?_
      refine hK.out _ _ HS6.out (fun hHeld => ?_)
      clear hK K
      simp only [List.getElem_toArray, List.getElem_cons_succ, List.getElem_cons_zero, Act.put, List.setIfInBounds_toArray, List.set_cons_zero, List.set_cons_succ]
      refine wpAnyH_norm (l2 := #[true, true, true, true, false]) (f2 := 1) (by kernel_rfl) (by kernel_rfl) ?_
      refine wpAnyH_ready (rs := [4]) (by kernel_rfl) (by simp) ?_
      refine AllReadyH.cons rfl (fun K hK => ?_) AllReadyH.nil
      go_simp
      refine hK.out _ _ HS6.out (fun hHeld => ?_)
      clear hK K
      simp only [List.getElem_toArray, List.getElem_cons_succ, List.getElem_cons_zero, Act.put, List.setIfInBounds_toArray, List.set_cons_zero, List.set_cons_succ]
      refine wpAnyH_norm (l2 := #[true, true, true, true, true]) (f2 := 0) (by kernel_rfl) (by kernel_rfl) ?_
      refine wpAnyH_done (by kernel_rfl) ?_ _
      go_wp2
      exact bodyPost_ret (v := .tuple #[c.v, stV a b d s.nx s.px s.ta, .int .i64 0]) (by simp [results, Try.results11, asAddr, Act.put, hl1, hl2]) rfl ⟨HF.out, fun _ => ⟨a, b, d, Q, R, rfl, HSmF.out⟩, fun e => absurd e (by simp [HZ.out, he])⟩
    · have hk2 : (((chk c s 4096 : Nat) : Int) != 0) = true := by simp; omega
      have HNZ := hid hk
      have HCk5 : Hid (∃ kk : Nat, ((kk : Int) != 0) = true ∧ Calls Try.prog 9 #[c.v, stV a b d s.nx s.px s.ta, .int .i64 4096] V4 fun e w' => e = .returned (.int .i64 (kk : Int)) ∧ Below V4.heap.size V4 w') := ⟨_, hk2, HCk4.out⟩
      clear hk hk2 HCk4
      obtain ⟨kk, hk2, hck⟩ := HCk5.out
      have HCK := hid hck
      clear hck HCk5
      go_upto_region 6 with (first | (go_at_call 33; refine HE4.out.mono ?_; rintro x w5 ⟨rfl, rfl⟩) | ((with_reducible refine ld_armg HLD6.out ?_ ?_ ?_); (· rfl); (· rfl)) | ((with_reducible refine ld_armg HLD7.out ?_ ?_ ?_); (· rfl); (· rfl)) | (go_at_call 9; refine HCK.out.mono ?_; rintro x w6 ⟨rfl, hbk⟩; have HBK := hid hbk; clear hbk))
      obtain ⟨V5, V6, hs1, hs2, hl1, hl2, hb6, hbt, hbt5⟩ := two_res (L1 := [.int .i64 0, .int .i64 0, .int .i64 0, .int .i64 0, .int .i64 0, .int .i64 0, .int .i64 0, .int .i64 0, .int .i64 0, .int .i64 0]) (L2 := [.slice none 0 0, .slice none 0 0, .slice none 0 0, .int .i64 0, .int .i64 0, .int .i64 0]) (V := w6) (below_call HRB.out HBK.out) ((HX0.out.later HBV.out).later HBK.out) ((HX1.out.later HBV.out).later HBK.out) rfl rfl rfl rfl (cf_one cf0) (st_one sl0 sl0 sl0 0 0 0)
      have HS1 := hid hs1
      have HS2 := hid hs2
      have HF := hid hb6
      clear hs1 hs2 hb6 hbt hbt5
      go_wp2_with (first | ((with_reducible refine st_arm HS1.out ?_ ?_ ?_); (· rfl); (· rfl)) | ((with_reducible refine st_arm HS2.out ?_ ?_ ?_); (· rfl); (· rfl)))
      exact bodyPost_ret (v := .tuple #[cf0.v, stV sl0 sl0 sl0 0 0 0, .int .i64 21]) (by simp [results, Try.results11, asAddr, Act.put, hl1, hl2, cf0]) rfl ⟨HF.out, (fun e => absurd e (by simp [HNZ.out])), fun _ => rfl⟩
end Go.Proofs.Ythfmmfphnimlnaa
