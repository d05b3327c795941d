import Derived.Test.YthfmmfphnimlnaaDX
import Derived.Deep.CutBlock
namespace Go.Proofs.Ythfmmfphnimlnaa
open Go.RowKit
set_option linter.unusedVariables false
set_option linter.unusedSimpArgs false
theorem tp_new {w : World} {a : Option Addr} {n c : Nat} {L : List Nat} (h : Row w a n c L) (hn : n ≤ 140737488355328) (W0 W : World) (hB : Below w.heap.size w W0) (hW : W = W0.alloc (Obj.cells #[.slice a n c, .int .i64 0, .bool false] 56)) : Tp W W0.heap.size a n c L (L, false) := by
  have hb : Below w.heap.size w W := by rw [hW]; exact below_call hB (below1 _ _)
  have hx : ∀ i v, [Value.slice a n c, .int .i64 0, .bool false][i]? = some v → Lies W ⟨W0.heap.size, i, none⟩ v := fun i v hv => by
    rw [hW]; exact _root_.Go.Proofs.Ythfmmfphnimlnaa.W.lies_new (by simpa using hv)
  exact ⟨hx 0 _ rfl, ⟨0, Nat.zero_le _, rfl, hx 1 _ rfl⟩, hx 2 _ rfl, h.later hb, fun h0 hk => by have := h.lt h0 _ hk; have := hB.size; omega, hn⟩
set_option maxRecDepth 100000 in
set_option maxHeartbeats 8000000 in
theorem dparse_any (ra : Option Addr) (rn rc : Nat) (L : List Nat) (w : World) (h : Row w ra rn rc L) (hn : rn ≤ 140737488355328) :
    Calls Try.prog 10 #[.slice ra rn rc] w fun x w' => Below w.heap.size w w' ∧ (dB L = true → ∃ a b d Q R, x = .returned (.tuple #[(dC L).v, stV a b d (dSt L).nx (dSt L).px (dSt L).ta, .int .i64 0]) ∧ Sm w' (dSt L) a b d Q R) ∧ (dB L = false → x = .returned (.tuple #[cf0.v, stV sl0 sl0 sl0 0 0 0, .int .i64 21])) := by
  obtain ⟨W0, hW0⟩ : ∃ W, W = (w.alloc (Obj.cells #[.int .i64 0, .int .i64 0, .int .i64 0, .int .i64 0, .int .i64 0, .int .i64 0, .int .i64 0, .int .i64 0, .int .i64 0, .int .i64 0] 23)).alloc (Obj.cells #[.slice none 0 0, .slice none 0 0, .slice none 0 0, .int .i64 0, .int .i64 0, .int .i64 0] 28) := ⟨_, rfl⟩
  obtain ⟨W, hW⟩ : ∃ W, W = W0.alloc (Obj.cells #[.slice ra rn rc, .int .i64 0, .bool false] 56) := ⟨_, rfl⟩
  have hB0 : Below w.heap.size w W0 := by rw [hW0]; exact below2 _ _ _
  have hB : Below w.heap.size w W := by rw [hW]; exact below_call hB0 (below1 _ _)
  have HX0 : Hid (Bx W w.heap.size Z10) := by rw [hW, hW0]; exact ((Bx.new w Z10 _).later (below1 _ _)).later (below1 _ _)
  have HX1 : Hid (Bx W (w.heap.size + 1) Z6) := by rw [hW, hW0]; have := Bx.new (w.alloc (Obj.cells Z10.toArray 23)) Z6 28; simp at this; exact this.later (below1 _ _)
  have hs0 : W0.heap.size = w.heap.size + 2 := by rw [hW0]; simp
  have HTp : Hid (Tp W (w.heap.size + 2) ra rn rc L (L, false)) := by have := tp_new h hn W0 W hB0 hW; rwa [hs0] at this
  have HSz : Hid (W.heap.size = w.heap.size + 3) := by unfold Hid; rw [hW]; simp [hs0]
  have HAb := hid h.lt
  have HSm : Hid (Sml (L, false)) := h.small
  have HLn : Hid (L.length = rn) := h.len
  have HB := hid hB
  have HWW : Hid (W = ((w.alloc (Obj.cells #[.int .i64 0, .int .i64 0, .int .i64 0, .int .i64 0, .int .i64 0, .int .i64 0, .int .i64 0, .int .i64 0, .int .i64 0, .int .i64 0] 23)).alloc (Obj.cells #[.slice none 0 0, .slice none 0 0, .slice none 0 0, .int .i64 0, .int .i64 0, .int .i64 0] 28)).alloc (Obj.cells #[.slice ra rn rc, .int .i64 0, .bool false] 56)) := by unfold Hid; rw [hW, hW0]
  have HRw := hid (drow8 (w.heap.size + 2) ra rn rc L (L, false) W HTp.out)
  have HC0 : Hid (∀ U, Tp U (w.heap.size + 2) ra rn rc L (dcS (d1 L) 0) → Calls Try.prog 26 #[.pointer (some ⟨w.heap.size + 2, 0, none⟩), .int .i64 2] U fun x w' => x = .returned (.int .i64 (dV (dcS (d1 L) 0) 2)) ∧ Tp w' (w.heap.size + 2) ra rn rc L (dcS (d1 L) 1) ∧ But (· = w.heap.size + 2) U w') := dtake2 (w.heap.size + 2) ra rn rc L (dcS (d1 L) 0)
  have HC1 : Hid (∀ U, Tp U (w.heap.size + 2) ra rn rc L (dcS (d1 L) 1) → Calls Try.prog 26 #[.pointer (some ⟨w.heap.size + 2, 0, none⟩), .int .i64 2] U fun x w' => x = .returned (.int .i64 (dV (dcS (d1 L) 1) 2)) ∧ Tp w' (w.heap.size + 2) ra rn rc L (dcS (d1 L) 2) ∧ But (· = w.heap.size + 2) U w') := dtake2 (w.heap.size + 2) ra rn rc L (dcS (d1 L) 1)
  have HC2 : Hid (∀ U, Tp U (w.heap.size + 2) ra rn rc L (dcS (d1 L) 2) → Calls Try.prog 26 #[.pointer (some ⟨w.heap.size + 2, 0, none⟩), .int .i64 2] U fun x w' => x = .returned (.int .i64 (dV (dcS (d1 L) 2) 2)) ∧ Tp w' (w.heap.size + 2) ra rn rc L (dcS (d1 L) 3) ∧ But (· = w.heap.size + 2) U w') := dtake2 (w.heap.size + 2) ra rn rc L (dcS (d1 L) 2)
  have HC3 : Hid (∀ U, Tp U (w.heap.size + 2) ra rn rc L (dcS (d1 L) 3) → Calls Try.prog 26 #[.pointer (some ⟨w.heap.size + 2, 0, none⟩), .int .i64 2] U fun x w' => x = .returned (.int .i64 (dV (dcS (d1 L) 3) 2)) ∧ Tp w' (w.heap.size + 2) ra rn rc L (dcS (d1 L) 4) ∧ But (· = w.heap.size + 2) U w') := dtake2 (w.heap.size + 2) ra rn rc L (dcS (d1 L) 3)
  have HC4 : Hid (∀ U, Tp U (w.heap.size + 2) ra rn rc L (dcS (d1 L) 4) → Calls Try.prog 26 #[.pointer (some ⟨w.heap.size + 2, 0, none⟩), .int .i64 2] U fun x w' => x = .returned (.int .i64 (dV (dcS (d1 L) 4) 2)) ∧ Tp w' (w.heap.size + 2) ra rn rc L (dcS (d1 L) 5) ∧ But (· = w.heap.size + 2) U w') := dtake2 (w.heap.size + 2) ra rn rc L (dcS (d1 L) 4)
  have HC5 : Hid (∀ U, Tp U (w.heap.size + 2) ra rn rc L (dcS (d1 L) 5) → Calls Try.prog 26 #[.pointer (some ⟨w.heap.size + 2, 0, none⟩), .int .i64 2] U fun x w' => x = .returned (.int .i64 (dV (dcS (d1 L) 5) 2)) ∧ Tp w' (w.heap.size + 2) ra rn rc L (dcS (d1 L) 6) ∧ But (· = w.heap.size + 2) U w') := dtake2 (w.heap.size + 2) ra rn rc L (dcS (d1 L) 5)
  have HC6 : Hid (∀ U, Tp U (w.heap.size + 2) ra rn rc L (dcS (d1 L) 6) → Calls Try.prog 26 #[.pointer (some ⟨w.heap.size + 2, 0, none⟩), .int .i64 2] U fun x w' => x = .returned (.int .i64 (dV (dcS (d1 L) 6) 2)) ∧ Tp w' (w.heap.size + 2) ra rn rc L (dcS (d1 L) 7) ∧ But (· = w.heap.size + 2) U w') := dtake2 (w.heap.size + 2) ra rn rc L (dcS (d1 L) 6)
  have HC7 : Hid (∀ U, Tp U (w.heap.size + 2) ra rn rc L (dcS (d1 L) 7) → Calls Try.prog 26 #[.pointer (some ⟨w.heap.size + 2, 0, none⟩), .int .i64 2] U fun x w' => x = .returned (.int .i64 (dV (dcS (d1 L) 7) 2)) ∧ Tp w' (w.heap.size + 2) ra rn rc L (dcS (d1 L) 8) ∧ But (· = w.heap.size + 2) U w') := dtake2 (w.heap.size + 2) ra rn rc L (dcS (d1 L) 7)
  have HC8 : Hid (∀ U, Tp U (w.heap.size + 2) ra rn rc L (dcS (d1 L) 8) → Calls Try.prog 26 #[.pointer (some ⟨w.heap.size + 2, 0, none⟩), .int .i64 2] U fun x w' => x = .returned (.int .i64 (dV (dcS (d1 L) 8) 2)) ∧ Tp w' (w.heap.size + 2) ra rn rc L (dcS (d1 L) 9) ∧ But (· = w.heap.size + 2) U w') := dtake2 (w.heap.size + 2) ra rn rc L (dcS (d1 L) 8)
  have HC9 : Hid (∀ U, Tp U (w.heap.size + 2) ra rn rc L (dcS (d1 L) 9) → Calls Try.prog 26 #[.pointer (some ⟨w.heap.size + 2, 0, none⟩), .int .i64 2] U fun x w' => x = .returned (.int .i64 (dV (dcS (d1 L) 9) 2)) ∧ Tp w' (w.heap.size + 2) ra rn rc L (d10 L) ∧ But (· = w.heap.size + 2) U w') := dtake2 (w.heap.size + 2) ra rn rc L (dcS (d1 L) 9)
  have HC10 : Hid (∀ U, Tp U (w.heap.size + 2) ra rn rc L (d10 L) → Calls Try.prog 26 #[.pointer (some ⟨w.heap.size + 2, 0, none⟩), .int .i64 8] U fun x w' => x = .returned (.int .i64 (dV (d10 L) 8)) ∧ Tp w' (w.heap.size + 2) ra rn rc L (d11 L) ∧ But (· = w.heap.size + 2) U w') := dtake8 (w.heap.size + 2) ra rn rc L (d10 L)
  have HC11 : Hid (∀ U, Tp U (w.heap.size + 2) ra rn rc L (d11 L) → Calls Try.prog 26 #[.pointer (some ⟨w.heap.size + 2, 0, none⟩), .int .i64 4] U fun x w' => x = .returned (.int .i64 (dV (d11 L) 4)) ∧ Tp w' (w.heap.size + 2) ra rn rc L (d12 L) ∧ But (· = w.heap.size + 2) U w') := dtake4 (w.heap.size + 2) ra rn rc L (d11 L)
  have HC12 : Hid (∀ U, Tp U (w.heap.size + 2) ra rn rc L (d12 L) → Calls Try.prog 26 #[.pointer (some ⟨w.heap.size + 2, 0, none⟩), .int .i64 2] U fun x w' => x = .returned (.int .i64 (dV (d12 L) 2)) ∧ Tp w' (w.heap.size + 2) ra rn rc L (d13 L) ∧ But (· = w.heap.size + 2) U w') := dtake2 (w.heap.size + 2) ra rn rc L (d12 L)
  have HS10 : Hid (Sml (d10 L)) := dcS_sml (HSm.out.dS 8) 10
  have HS13 : Hid (Sml (d13 L)) := ((HS10.out.dS 8).dS 4).dS 2
  have HC13 : Hid (∀ U, Tp U (w.heap.size + 2) ra rn rc L (d13 L) → Calls Try.prog 26 #[.pointer (some ⟨w.heap.size + 2, 0, none⟩), .int .i64 2] U fun x w' => x = .returned (.int .i64 (dK (d13 L) 2 : Int)) ∧ Tp w' (w.heap.size + 2) ra rn rc L (d14 L) ∧ But (· = w.heap.size + 2) U w') := fun U hU => by have := dtake2 (w.heap.size + 2) ra rn rc L (d13 L) U hU; rw [dV_dK HS13.out (by omega)] at this; exact this
  have HRd : Hid (rD (L, false) 8 = rD (L, false) 8 ∧ ∀ x ∈ rD (L, false) 8, x < 256) := ⟨rfl, rD_sml HSm.out 8⟩
  have HdB : Hid (dB L = (!(dP L).2.2 && (decide (rD (L, false) 8 = mkB) && (decide ((dP L).2.1 = []) && decide (chk (dC L) (dSt L) 4096 = 0))))) := rfl
  have HdC : Hid (dC L = dCf (d1 L)) := rfl
  have HdS : Hid (dSt L = ⟨(dO L).1, (dT L).1, (dP L).1, dV (d10 L) 8, dV (d11 L) 4, dV (d12 L) 2⟩) := rfl
  have HdO : Hid (dO L = rdD oD (dK (d13 L) 2) (d14 L)) := rfl
  have HdT : Hid (dT L = rdD tD (dK (dO L).2 2) (dS (dO L).2 2)) := rfl
  have HdP : Hid (dP L = rdD pD (dK (dT L).2 2) (dS (dT L).2 2)) := rfl
  have HSO : Hid (Sml (dO L).2 ∧ ∀ x ∈ (dO L).1, x.b.length ≤ 65535) := by
    have := rdD_all (f := oD) (P := fun o => o.b.length ≤ 65535) (I := Sml) (fun q h => oD_all h) (dK (d13 L) 2) (d14 L) (HS13.out.dS 2)
    exact ⟨this.2, this.1⟩
  have HST : Hid (Sml (dT L).2 ∧ ∀ x ∈ (dT L).1, x.c.ok) := by
    have := rdD_all (f := tD) (P := fun o => o.c.ok) (I := Sml) (fun q h => tD_all h) (dK (dO L).2 2) (dS (dO L).2 2) (HSO.out.1.dS 2)
    exact ⟨this.2, this.1⟩
  have HSP : Hid (∀ x ∈ (dP L).1, (∀ y ∈ x.l, y.ok) ∧ x.l.length ≤ 255) := by
    have := rdD_all (f := pD) (P := fun x => (∀ y ∈ x.l, y.ok) ∧ x.l.length ≤ 255) (I := Sml) (fun q h => pD_all h) (dK (dT L).2 2) (dS (dT L).2 2) (HST.out.1.dS 2)
    exact this.1
  have HKO : Hid (dK (d13 L) 2 < 65536) := dK_lt HS13.out 2
  have HKT : Hid (dK (dO L).2 2 < 65536) := dK_lt HSO.out.1 2
  have HKP : Hid (dK (dT L).2 2 < 65536) := dK_lt HST.out.1 2
  have HD1 : Hid (d1 L = dcS (d1 L) 0) := rfl
  have HDc : Hid (dCf (d1 L) = ⟨dV (dcS (d1 L) 0) 2, dV (dcS (d1 L) 1) 2, dV (dcS (d1 L) 2) 2, dV (dcS (d1 L) 3) 2, dV (dcS (d1 L) 4) 2, dV (dcS (d1 L) 5) 2, dV (dcS (d1 L) 6) 2, dV (dcS (d1 L) 7) 2, dV (dcS (d1 L) 8) 2, dV (dcS (d1 L) 9) 2⟩) := rfl
  have HRw : Hid (Calls Try.prog 25 #[.pointer (some ⟨w.heap.size + 2, 0, none⟩), .int .i64 8] W fun x w' => ∃ a' m' c', x = .returned (.slice a' m' c') ∧ Own w' W.heap.size a' m' c' (rD (L, false) 8) ∧ Tp w' (w.heap.size + 2) ra rn rc L (dcS (d1 L) 0) ∧ But (· = w.heap.size + 2) W w') := HRw.out
  generalize dV (dcS (d1 L) 0) 2 = x0 at HC0 HDc
  generalize dV (dcS (d1 L) 1) 2 = x1 at HC1 HDc
  generalize dV (dcS (d1 L) 2) 2 = x2 at HC2 HDc
  generalize dV (dcS (d1 L) 3) 2 = x3 at HC3 HDc
  generalize dV (dcS (d1 L) 4) 2 = x4 at HC4 HDc
  generalize dV (dcS (d1 L) 5) 2 = x5 at HC5 HDc
  generalize dV (dcS (d1 L) 6) 2 = x6 at HC6 HDc
  generalize dV (dcS (d1 L) 7) 2 = x7 at HC7 HDc
  generalize dV (dcS (d1 L) 8) 2 = x8 at HC8 HDc
  generalize dV (dcS (d1 L) 9) 2 = x9 at HC9 HDc
  generalize dV (d10 L) 8 = nx at HC10 HdS
  generalize dV (d11 L) 4 = px at HC11 HdS
  generalize dV (d12 L) 2 = ta at HC12 HdS
  generalize rD (L, false) 8 = mg at HRw HRd HdB
  rw [HDc.out] at HdC
  clear HDc HD1 HS10 HS13
  generalize dK (d13 L) 2 = nO at HC13 HdO HKO
  generalize d14 L = q14 at HC13 HdO
  generalize d13 L = q13 at HC12 HC13
  generalize d12 L = q12 at HC11 HC12
  generalize d11 L = q11 at HC10 HC11
  generalize d10 L = q10 at HC9 HC10
  generalize dcS (d1 L) 9 = q9 at HC9 HC8
  generalize dcS (d1 L) 8 = q8 at HC8 HC7
  generalize dcS (d1 L) 7 = q7 at HC7 HC6
  generalize dcS (d1 L) 6 = q6 at HC6 HC5
  generalize dcS (d1 L) 5 = q5 at HC5 HC4
  generalize dcS (d1 L) 4 = q4 at HC4 HC3
  generalize dcS (d1 L) 3 = q3 at HC3 HC2
  generalize dcS (d1 L) 2 = q2 at HC2 HC1
  generalize dcS (d1 L) 1 = q1 at HC1 HC0
  generalize dcS (d1 L) 0 = q0 at HC0 HRw
  obtain ⟨g, hg⟩ : ∃ g, g = w.heap.size + 2 := ⟨_, rfl⟩
  rw [← hg] at HTp HRw HC0 HC1 HC2 HC3 HC4 HC5 HC6 HC7 HC8 HC9 HC10 HC11 HC12 HC13
  have HG := hid hg
  have hs0' := hs0
  clear h hn hW hW0 hB hB0 hs0 hs0' HTp
  go_enter Try.func10, Try.ntmps10
  go_upto_region 2 with fail
  rw [← HWW.out, ← hg]
  clear hg
  go_upto_region 3 with (first | (go_at_call 25; refine HRw.out.mono ?_; rintro x w1 ⟨ma, mm, mc, rfl, ho1, ht1, hb1⟩; have hcv := ho1.read.conv; have HT1 := hid ht1; have HB1 := hid hb1; clear ho1 ht1 hb1))
  clear hcv
  go_upto_region 5 with fail
  obtain ⟨V, hV⟩ : ∃ V, V = (w1.alloc (Obj.cells #[.int .i64 0, .int .i64 0, .int .i64 0, .int .i64 0, .int .i64 0, .int .i64 0, .int .i64 0, .int .i64 0, .int .i64 0, .int .i64 0] 23)).alloc (Obj.cells #[.slice none 0 0, .slice none 0 0, .slice none 0 0, .int .i64 0, .int .i64 0, .int .i64 0] 28) := ⟨_, rfl⟩
  rw [← hV]
  obtain ⟨gc, hgc⟩ : ∃ k, k = w1.heap.size := ⟨_, rfl⟩
  obtain ⟨gs, hgs⟩ : ∃ k, k = w1.heap.size + 1 := ⟨_, rfl⟩
  have HP0 : Hid (Pd w V g gc gs ra rn rc L q0 [.int .i64 0, .int .i64 0, .int .i64 0, .int .i64 0, .int .i64 0, .int .i64 0, .int .i64 0, .int .i64 0, .int .i64 0, .int .i64 0] [.slice none 0 0, .slice none 0 0, .slice none 0 0, .int .i64 0, .int .i64 0, .int .i64 0]) := by
    have hbv : Below w1.heap.size w1 V := by rw [hV]; exact below2 _ _ _
    have h1 := HB1.out.size
    have h2 := HSz.out
    have h3 := HG.out
    have hbw : But (· = g) W V := HB1.out.call hbv
    refine ⟨HT1.out.later hbv, But.below HB.out hbw (fun k hk => by omega), HX0.out.but hbw (by omega), HX1.out.but hbw (by omega), ?_, ?_, by omega, by omega, by omega, HAb.out⟩
    · rw [hgc, hV]; exact (Bx.new w1 Z10 _).later (below1 _ _)
    · rw [hgs, hV]; have := Bx.new (w1.alloc (Obj.cells Z10.toArray 23)) Z6 28; simp at this; exact this
  rw [← hgs, ← hgc]
  clear hV hgc hgs HT1 HB1 HX0 HX1 HWW HRw
  go_upto_region 6 with (first | (go_at_call 26; refine (HC0.out _ HP0.out.tp).mono ?_; rintro x u ⟨rfl, ht, hb⟩; obtain ⟨⟨z0, f0⟩, hp⟩ := HP0.out.goC 0 (.int .i64 x0) (.int .i64 0) rfl hb ht; have HP1 : Hid (Pd w (u.setCell ⟨gc, 0, none⟩ (.int .i64 x0)) g gc gs ra rn rc L q1 [.int .i64 x0, .int .i64 0, .int .i64 0, .int .i64 0, .int .i64 0, .int .i64 0, .int .i64 0, .int .i64 0, .int .i64 0, .int .i64 0] [.slice none 0 0, .slice none 0 0, .slice none 0 0, .int .i64 0, .int .i64 0, .int .i64 0]) := hp; clear ht hb hp))
  obtain ⟨U1, hU⟩ : ∃ U, U = u.setCell ⟨gc, 0, none⟩ (.int .i64 x0) := ⟨_, rfl⟩
  rw [← hU] at HP1 ⊢
  clear z0 f0 hU HP0 HC0
  go_upto_region 7 with (first | (go_at_call 26; refine (HC1.out _ HP1.out.tp).mono ?_; rintro x u ⟨rfl, ht, hb⟩; obtain ⟨⟨z0, f0⟩, hp⟩ := HP1.out.goC 1 (.int .i64 x1) (.int .i64 0) rfl hb ht; have HP2 : Hid (Pd w (u.setCell ⟨gc, 1, none⟩ (.int .i64 x1)) g gc gs ra rn rc L q2 [.int .i64 x0, .int .i64 x1, .int .i64 0, .int .i64 0, .int .i64 0, .int .i64 0, .int .i64 0, .int .i64 0, .int .i64 0, .int .i64 0] [.slice none 0 0, .slice none 0 0, .slice none 0 0, .int .i64 0, .int .i64 0, .int .i64 0]) := hp; clear ht hb hp))
  obtain ⟨U2, hU⟩ : ∃ U, U = u.setCell ⟨gc, 1, none⟩ (.int .i64 x1) := ⟨_, rfl⟩
  rw [← hU] at HP2 ⊢
  clear z0 f0 hU HP1 HC1
  go_upto_region 8 with (first | (go_at_call 26; refine (HC2.out _ HP2.out.tp).mono ?_; rintro x u ⟨rfl, ht, hb⟩; obtain ⟨⟨z0, f0⟩, hp⟩ := HP2.out.goC 2 (.int .i64 x2) (.int .i64 0) rfl hb ht; have HP3 : Hid (Pd w (u.setCell ⟨gc, 2, none⟩ (.int .i64 x2)) g gc gs ra rn rc L q3 [.int .i64 x0, .int .i64 x1, .int .i64 x2, .int .i64 0, .int .i64 0, .int .i64 0, .int .i64 0, .int .i64 0, .int .i64 0, .int .i64 0] [.slice none 0 0, .slice none 0 0, .slice none 0 0, .int .i64 0, .int .i64 0, .int .i64 0]) := hp; clear ht hb hp))
  obtain ⟨U3, hU⟩ : ∃ U, U = u.setCell ⟨gc, 2, none⟩ (.int .i64 x2) := ⟨_, rfl⟩
  rw [← hU] at HP3 ⊢
  clear z0 f0 hU HP2 HC2
  go_upto_region 9 with (first | (go_at_call 26; refine (HC3.out _ HP3.out.tp).mono ?_; rintro x u ⟨rfl, ht, hb⟩; obtain ⟨⟨z0, f0⟩, hp⟩ := HP3.out.goC 3 (.int .i64 x3) (.int .i64 0) rfl hb ht; have HP4 : Hid (Pd w (u.setCell ⟨gc, 3, none⟩ (.int .i64 x3)) g gc gs ra rn rc L q4 [.int .i64 x0, .int .i64 x1, .int .i64 x2, .int .i64 x3, .int .i64 0, .int .i64 0, .int .i64 0, .int .i64 0, .int .i64 0, .int .i64 0] [.slice none 0 0, .slice none 0 0, .slice none 0 0, .int .i64 0, .int .i64 0, .int .i64 0]) := hp; clear ht hb hp))
  obtain ⟨U4, hU⟩ : ∃ U, U = u.setCell ⟨gc, 3, none⟩ (.int .i64 x3) := ⟨_, rfl⟩
  rw [← hU] at HP4 ⊢
  clear z0 f0 hU HP3 HC3
  go_upto_region 10 with (first | (go_at_call 26; refine (HC4.out _ HP4.out.tp).mono ?_; rintro x u ⟨rfl, ht, hb⟩; obtain ⟨⟨z0, f0⟩, hp⟩ := HP4.out.goC 4 (.int .i64 x4) (.int .i64 0) rfl hb ht; have HP5 : Hid (Pd w (u.setCell ⟨gc, 4, none⟩ (.int .i64 x4)) g gc gs ra rn rc L q5 [.int .i64 x0, .int .i64 x1, .int .i64 x2, .int .i64 x3, .int .i64 x4, .int .i64 0, .int .i64 0, .int .i64 0, .int .i64 0, .int .i64 0] [.slice none 0 0, .slice none 0 0, .slice none 0 0, .int .i64 0, .int .i64 0, .int .i64 0]) := hp; clear ht hb hp))
  obtain ⟨U5, hU⟩ : ∃ U, U = u.setCell ⟨gc, 4, none⟩ (.int .i64 x4) := ⟨_, rfl⟩
  rw [← hU] at HP5 ⊢
  clear z0 f0 hU HP4 HC4
  go_upto_region 11 with (first | (go_at_call 26; refine (HC5.out _ HP5.out.tp).mono ?_; rintro x u ⟨rfl, ht, hb⟩; obtain ⟨⟨z0, f0⟩, hp⟩ := HP5.out.goC 5 (.int .i64 x5) (.int .i64 0) rfl hb ht; have HP6 : Hid (Pd w (u.setCell ⟨gc, 5, none⟩ (.int .i64 x5)) g gc gs ra rn rc L q6 [.int .i64 x0, .int .i64 x1, .int .i64 x2, .int .i64 x3, .int .i64 x4, .int .i64 x5, .int .i64 0, .int .i64 0, .int .i64 0, .int .i64 0] [.slice none 0 0, .slice none 0 0, .slice none 0 0, .int .i64 0, .int .i64 0, .int .i64 0]) := hp; clear ht hb hp))
  obtain ⟨U6, hU⟩ : ∃ U, U = u.setCell ⟨gc, 5, none⟩ (.int .i64 x5) := ⟨_, rfl⟩
  rw [← hU] at HP6 ⊢
  clear z0 f0 hU HP5 HC5
  go_upto_region 12 with (first | (go_at_call 26; refine (HC6.out _ HP6.out.tp).mono ?_; rintro x u ⟨rfl, ht, hb⟩; obtain ⟨⟨z0, f0⟩, hp⟩ := HP6.out.goC 6 (.int .i64 x6) (.int .i64 0) rfl hb ht; have HP7 : Hid (Pd w (u.setCell ⟨gc, 6, none⟩ (.int .i64 x6)) g gc gs ra rn rc L q7 [.int .i64 x0, .int .i64 x1, .int .i64 x2, .int .i64 x3, .int .i64 x4, .int .i64 x5, .int .i64 x6, .int .i64 0, .int .i64 0, .int .i64 0] [.slice none 0 0, .slice none 0 0, .slice none 0 0, .int .i64 0, .int .i64 0, .int .i64 0]) := hp; clear ht hb hp))
  obtain ⟨U7, hU⟩ : ∃ U, U = u.setCell ⟨gc, 6, none⟩ (.int .i64 x6) := ⟨_, rfl⟩
  rw [← hU] at HP7 ⊢
  clear z0 f0 hU HP6 HC6
  go_upto_region 13 with (first | (go_at_call 26; refine (HC7.out _ HP7.out.tp).mono ?_; rintro x u ⟨rfl, ht, hb⟩; obtain ⟨⟨z0, f0⟩, hp⟩ := HP7.out.goC 7 (.int .i64 x7) (.int .i64 0) rfl hb ht; have HP8 : Hid (Pd w (u.setCell ⟨gc, 7, none⟩ (.int .i64 x7)) g gc gs ra rn rc L q8 [.int .i64 x0, .int .i64 x1, .int .i64 x2, .int .i64 x3, .int .i64 x4, .int .i64 x5, .int .i64 x6, .int .i64 x7, .int .i64 0, .int .i64 0] [.slice none 0 0, .slice none 0 0, .slice none 0 0, .int .i64 0, .int .i64 0, .int .i64 0]) := hp; clear ht hb hp))
  obtain ⟨U8, hU⟩ : ∃ U, U = u.setCell ⟨gc, 7, none⟩ (.int .i64 x7) := ⟨_, rfl⟩
  rw [← hU] at HP8 ⊢
  clear z0 f0 hU HP7 HC7
  go_upto_region 14 with (first | (go_at_call 26; refine (HC8.out _ HP8.out.tp).mono ?_; rintro x u ⟨rfl, ht, hb⟩; obtain ⟨⟨z0, f0⟩, hp⟩ := HP8.out.goC 8 (.int .i64 x8) (.int .i64 0) rfl hb ht; have HP9 : Hid (Pd w (u.setCell ⟨gc, 8, none⟩ (.int .i64 x8)) g gc gs ra rn rc L q9 [.int .i64 x0, .int .i64 x1, .int .i64 x2, .int .i64 x3, .int .i64 x4, .int .i64 x5, .int .i64 x6, .int .i64 x7, .int .i64 x8, .int .i64 0] [.slice none 0 0, .slice none 0 0, .slice none 0 0, .int .i64 0, .int .i64 0, .int .i64 0]) := hp; clear ht hb hp))
  obtain ⟨U9, hU⟩ : ∃ U, U = u.setCell ⟨gc, 8, none⟩ (.int .i64 x8) := ⟨_, rfl⟩
  rw [← hU] at HP9 ⊢
  clear z0 f0 hU HP8 HC8
  go_upto_region 15 with (first | (go_at_call 26; refine (HC9.out _ HP9.out.tp).mono ?_; rintro x u ⟨rfl, ht, hb⟩; obtain ⟨⟨z0, f0⟩, hp⟩ := HP9.out.goC 9 (.int .i64 x9) (.int .i64 0) rfl hb ht; have HP10 : Hid (Pd w (u.setCell ⟨gc, 9, none⟩ (.int .i64 x9)) g gc gs ra rn rc L q10 [.int .i64 x0, .int .i64 x1, .int .i64 x2, .int .i64 x3, .int .i64 x4, .int .i64 x5, .int .i64 x6, .int .i64 x7, .int .i64 x8, .int .i64 x9] [.slice none 0 0, .slice none 0 0, .slice none 0 0, .int .i64 0, .int .i64 0, .int .i64 0]) := hp; clear ht hb hp))
  obtain ⟨U10, hU⟩ : ∃ U, U = u.setCell ⟨gc, 9, none⟩ (.int .i64 x9) := ⟨_, rfl⟩
  rw [← hU] at HP10 ⊢
  clear z0 f0 hU HP9 HC9
  go_upto_region 16 with (first | (go_at_call 26; refine (HC10.out _ HP10.out.tp).mono ?_; rintro x u ⟨rfl, ht, hb⟩; obtain ⟨⟨z0, f0⟩, hp⟩ := HP10.out.goS 3 (.int .i64 nx) (.int .i64 0) rfl hb ht; have HP11 : Hid (Pd w (u.setCell ⟨gs, 3, none⟩ (.int .i64 nx)) g gc gs ra rn rc L q11 [.int .i64 x0, .int .i64 x1, .int .i64 x2, .int .i64 x3, .int .i64 x4, .int .i64 x5, .int .i64 x6, .int .i64 x7, .int .i64 x8, .int .i64 x9] [.slice none 0 0, .slice none 0 0, .slice none 0 0, .int .i64 nx, .int .i64 0, .int .i64 0]) := hp; clear ht hb hp))
  obtain ⟨U11, hU⟩ : ∃ U, U = u.setCell ⟨gs, 3, none⟩ (.int .i64 nx) := ⟨_, rfl⟩
  rw [← hU] at HP11 ⊢
  clear z0 f0 hU HP10 HC10
  go_upto_region 17 with (first | (go_at_call 26; refine (HC11.out _ HP11.out.tp).mono ?_; rintro x u ⟨rfl, ht, hb⟩; obtain ⟨⟨z0, f0⟩, hp⟩ := HP11.out.goS 4 (.int .i64 px) (.int .i64 0) rfl hb ht; have HP12 : Hid (Pd w (u.setCell ⟨gs, 4, none⟩ (.int .i64 px)) g gc gs ra rn rc L q12 [.int .i64 x0, .int .i64 x1, .int .i64 x2, .int .i64 x3, .int .i64 x4, .int .i64 x5, .int .i64 x6, .int .i64 x7, .int .i64 x8, .int .i64 x9] [.slice none 0 0, .slice none 0 0, .slice none 0 0, .int .i64 nx, .int .i64 px, .int .i64 0]) := hp; clear ht hb hp))
  obtain ⟨U12, hU⟩ : ∃ U, U = u.setCell ⟨gs, 4, none⟩ (.int .i64 px) := ⟨_, rfl⟩
  rw [← hU] at HP12 ⊢
  clear z0 f0 hU HP11 HC11
  go_upto_region 18 with (first | (go_at_call 26; refine (HC12.out _ HP12.out.tp).mono ?_; rintro x u ⟨rfl, ht, hb⟩; obtain ⟨⟨z0, f0⟩, hp⟩ := HP12.out.goS 5 (.int .i64 ta) (.int .i64 0) rfl hb ht; have HP13 : Hid (Pd w (u.setCell ⟨gs, 5, none⟩ (.int .i64 ta)) g gc gs ra rn rc L q13 [.int .i64 x0, .int .i64 x1, .int .i64 x2, .int .i64 x3, .int .i64 x4, .int .i64 x5, .int .i64 x6, .int .i64 x7, .int .i64 x8, .int .i64 x9] [.slice none 0 0, .slice none 0 0, .slice none 0 0, .int .i64 nx, .int .i64 px, .int .i64 ta]) := hp; clear ht hb hp))
  obtain ⟨U13, hU⟩ : ∃ U, U = u.setCell ⟨gs, 5, none⟩ (.int .i64 ta) := ⟨_, rfl⟩
  rw [← hU] at HP13 ⊢
  clear z0 f0 hU HP12 HC12
  go_upto_block 0 with (first | (go_at_call 26; refine (HC13.out _ HP13.out.tp).mono ?_; rintro x X ⟨rfl, ht, hb⟩; have HPX := hid (HP13.out.went hb ht); clear ht hb))
  clear HP13 HC13
  have HXs : Hid (g < X.heap.size ∧ gs < X.heap.size ∧ w.heap.size ≤ X.heap.size) := ⟨HPX.out.tp.lt, HPX.out.bs.lt (by simp), HPX.out.bt.size⟩
  go_cut [10] from 67 (fun _ U => ∃ (a : Option Addr) (j c : Nat) (Q : List (Ob × Sl)), Tp U g ra rn rc L (dO L).2 ∧ But (GS g gs) X U ∧ Bx U gs [.slice a j c, .slice none 0 0, .slice none 0 0, .int .i64 nx, .int .i64 px, .int .i64 ta] ∧ ObO U X.heap.size a j c Q ∧ Q.map Prod.fst = (dO L).1 ∧ j < 65536)
  case first =>
    go_wp2_with fail
    go_loopw [10] (fun i U => ∃ (j : Nat) (a : Option Addr) (c : Nat) (Q : List (Ob × Sl)) (qj : Qs), i = .int .i64 (j : Int) ∧ j ≤ nO ∧ rdD oD nO q14 = (Q.map Prod.fst ++ (rdD oD (nO - j) qj).1, (rdD oD (nO - j) qj).2) ∧ Sml qj ∧ Tp U g ra rn rc L qj ∧ But (GS g gs) X U ∧ Bx U gs [.slice a j c, .slice none 0 0, .slice none 0 0, .int .i64 nx, .int .i64 px, .int .i64 ta] ∧ ObO U X.heap.size a j c Q) (fun i _ => nO - ivN i)
    case atStart => exact ⟨0, none, 0, [], q14, rfl, Nat.zero_le _, by simp, HPX.out.tp.small, HPX.out.tp, But.refl _ _, HPX.out.bs, ⟨rfl, Ow.nil _ _ _ _, fun p hp => (by cases hp)⟩⟩
    case round =>
      obtain ⟨j, a, c, Q, qj, rfl, hj, hE, hsm, hT, hB, hS, hO⟩ := hrel
      have HE := hid hE
      have HSj := hid hsm
      have HT := hid hT
      have HBj := hid hB
      have HSb := hid hS
      have HO := hid hO
      have HKj := hid hj
      obtain ⟨b2, b2f⟩ := hT.c2
      clear hE hsm hT hB hS hO
      cases hbad : qj.2 with
      | true =>
        rw [hbad] at b2
        have HF : Hid (Tp wr g ra rn rc L (dO L).2 ∧ Q.map Prod.fst = (dO L).1 ∧ j < 65536) := by
          have e := HE.out
          rw [rdD_bad hbad] at e
          simp only [List.append_nil] at e
          rw [← HdO.out] at e
          rw [e]
          exact ⟨HT.out, rfl, by have := HKO.out; omega⟩
        clear HE hbad
        by_cases hlt : j < nO
        · have hd : decide ((j : Int) < (nO : Int)) = true := by simp; omega
          go_wp2
          go_meet
          exact ⟨a, j, c, Q, HF.out.1, HBj.out, HSb.out, HO.out, HF.out.2.1, HF.out.2.2⟩
        · have hd : decide ((j : Int) < (nO : Int)) = false := by simp; omega
          go_wp2
          go_meet
          exact ⟨a, j, c, Q, HF.out.1, HBj.out, HSb.out, HO.out, HF.out.2.1, HF.out.2.2⟩
      | false =>
        rw [hbad] at b2
        by_cases hlt : j < nO
        · have hd : decide ((j : Int) < (nO : Int)) = true := by simp; omega
          have hko := HKO.out
          have HE3 : Hid (rdD oD nO q14 = ((Q.map Prod.fst ++ [(oD qj).1]) ++ (rdD oD (nO - (j + 1)) (oD qj).2).1, (rdD oD (nO - (j + 1)) (oD qj).2).2)) := rdD_step HE.out hlt hbad
          have HS3 : Hid (Sml (oD qj).2) := (oD_all HSj.out).2
          have HQ := hid (oTake g ra rn rc L qj HSj.out)
          have HOd : Hid ((oD qj).1 = ⟨dV qj 8, rD (dS (dS qj 8) 2) (dK (dS qj 8) 2)⟩ ∧ (oD qj).2 = dS (dS (dS qj 8) 2) (dK (dS qj 8) 2)) := ⟨rfl, rfl⟩
          rw [HOd.out.1, HOd.out.2] at HE3
          rw [HOd.out.2] at HS3
          clear HOd
          generalize dS (dS (dS qj 8) 2) (dK (dS qj 8) 2) = q3 at HQ HE3 HS3
          generalize rD (dS (dS qj 8) 2) (dK (dS qj 8) 2) = by_ at HQ HE3
          generalize dK (dS qj 8) 2 = nb at HQ
          generalize dS (dS qj 8) 2 = q2 at HQ
          generalize dV qj 8 = id at HQ HE3
          generalize dS qj 8 = q1 at HQ
          clear HE hbad
          go_upto_region 23 with (first | (go_at_call 26; refine (HQ.out.1 _ HT.out).mono ?_; rintro x w2 ⟨rfl, ht2, hb2⟩; have HT2 := hid ht2; have HB2 := hid hb2; clear ht2 hb2))
          clear b2 b2f
          obtain ⟨V2, hV2⟩ : ∃ V, V = w2.alloc (Obj.cells #[.int .i64 id, .slice none 0 0] 60) := ⟨_, rfl⟩
          rw [← hV2]
          obtain ⟨k, hk⟩ : ∃ k, k = w2.heap.size := ⟨_, rfl⟩
          have HBv : Hid (Below w2.heap.size w2 V2) := by rw [hV2]; exact below1 _ _
          have HX2 : Hid (Bx V2 k [.int .i64 id, .slice none 0 0]) := by rw [hk, hV2]; exact Bx.new w2 [.int .i64 id, .slice none 0 0] _
          have HK2 : Hid (wr.heap.size ≤ k ∧ X.heap.size ≤ k ∧ k < V2.heap.size) := ⟨by rw [hk]; exact HB2.out.size, by rw [hk]; exact Nat.le_trans HBj.out.size HB2.out.size, by rw [hk, hV2]; simp⟩
          have HTv := hid (HT2.out.later HBv.out)
          have HBw := hid (HB2.out.call HBv.out)
          rw [← hk]
          clear hV2 hk HBv HT2 HB2
          go_upto_region 24 with (first | (go_at_call 26; refine (HQ.out.2.1 _ HTv.out).mono ?_; rintro x w3 ⟨rfl, ht3, hb3⟩; have HT3 := hid ht3; have HB3 := hid hb3; clear ht3 hb3))
          go_upto_region 25 with (first | (go_at_call 25; refine (HQ.out.2.2 _ HT3.out).mono ?_; rintro x w4 ⟨a4, m4, c4, rfl, ho4, ht4, hb4⟩; have HO4 := hid ho4; have HT4 := hid ht4; have HB4 := hid hb4; have HX4 := hid ((HX2.out.but HB3.out (by have := HK2.out; have := HXs.out; omega)).but hb4 (by have := HK2.out; have := HXs.out; omega)); (have x1 := HX4.out.cell 1 rfl); (have g1 : w4.frozen? ⟨k, 1, none⟩ = false := by have := (HX4.out.there 1 (by simp)).2; rwa [Nat.zero_add] at this); clear ho4 ht4 hb4))
          obtain ⟨U4, hU4⟩ : ∃ U, U = w4.setCell ⟨k, 1, none⟩ (.slice a4 m4 c4) := ⟨_, rfl⟩
          rw [← hU4]
          have HBk : Hid (But (· = k) w4 U4) := by rw [hU4]; exact but_set (Below.refl _ _) k 1 _
          have HXk : Hid (Bx U4 k [.int .i64 id, .slice a4 m4 c4]) := by rw [hU4]; exact HX4.out.set1 1 _ (by simp)
          have HBg : Hid (But (· = g) wr U4) := ((HBw.out.trans HB3.out).trans HB4.out).comp HBk.out (fun i hi => .inr (by have := HK2.out; omega))
          have HTu := hid (HT4.out.but HBk.out (by have := HK2.out; have := HXs.out; omega) (fun h0 i hi e => by have := HAb.out h0 i hi; have := HK2.out; have := HXs.out; omega))
          have HOu : Hid (Own U4 wr.heap.size a4 m4 c4 by_) := (HO4.out.but2 HBk.out (fun i hi e => by have := HO4.out.blk i hi; have := HB3.out.size; have := HK2.out; omega)).mono (by have := HBw.out.size; have := HB3.out.size; omega)
          have HSu := hid (HSb.out.but HBg.out (by have := HPX.out.o2; have := HPX.out.o3; omega))
          clear hU4 x1 g1 HX4 HT4 HBk HO4 HTv HBw HT3 HB3 HB4 HX2
          obtain ⟨a5, c5, w5, hrun5, hO5, hbut5, hge5⟩ := ob_app HBj.out.size HO.out HBg.out HXs.out.1 id by_ a4 m4 c4 HOu.out (by have := HKO.out; omega)
          have HRUN := hid hrun5
          have HO5 := hid hO5
          have HBu5 := hid hbut5
          have HGe := hid hge5
          clear hrun5 hO5 hbut5 hge5
          have HS5 := hid (HSu.out.but HBu5.out (fun hk => by have := HGe.out _ hk; have := HXs.out; omega))
          have y0 := HSu.out.cell 0 rfl
          have k0 := HXk.out.cell 0 rfl
          have k1 := HXk.out.cell 1 rfl
          go_wp2_with (first | (at_builtin; refine wpList_append_known rfl _ _ 24 rfl _ _ rfl rfl _ w5 HRUN.out ?_; (have s0 := HS5.out.cell 0 rfl); (have s1 : w5.frozen? ⟨gs, 0, none⟩ = false := by have := (HS5.out.there 0 (by simp)).2; rwa [Nat.zero_add] at this)))
          have hbS : But (· = gs) w5 (w5.setCell ⟨gs, 0, none⟩ (.slice a5 (j + 1) c5)) := but_set (Below.refl _ _) gs 0 _
          refine ⟨⟨j + 1, a5, c5, Q ++ [(⟨id, by_⟩, ⟨a4, m4, c4⟩)], q3, rfl, by omega, by rw [List.map_append]; exact HE3.out, HS3.out, ?_, ?_, HS5.out.set1 0 _ (by simp), ?_⟩, by simp [ivN]; omega⟩
          · exact (HTu.out.but HBu5.out (fun hk => by have := HGe.out _ hk; have := HXs.out; omega) (fun h0 i hi hk => by have := HAb.out h0 i hi; have := HGe.out _ hk; have := HXs.out; omega)).but hbS (by have := HPX.out.o2; have := HPX.out.o3; omega) (fun h0 i hi e => by have := HAb.out h0 i hi; have := HPX.out.o1; have := HPX.out.o2; have := HPX.out.o3; omega)
          · exact ((HBj.out.trans (HBg.out.mono (fun i hi => .inl hi))).comp HBu5.out (fun i hi => .inr (HGe.out i hi))).trans (hbS.mono (fun i hi => .inr hi))
          · exact HO5.out.but hbS (fun i h1 _ e => by have := HXs.out; omega)
        · have hd : decide ((j : Int) < (nO : Int)) = false := by simp; omega
          have HF : Hid (Tp wr g ra rn rc L (dO L).2 ∧ Q.map Prod.fst = (dO L).1 ∧ j < 65536) := by
            have e := HE.out
            rw [show nO - j = 0 by omega] at e
            simp only [rdD, List.append_nil] at e
            rw [← HdO.out] at e
            rw [e]
            exact ⟨HT.out, rfl, by have := HKO.out; omega⟩
          clear HE hbad
          go_wp2
          go_meet
          exact ⟨a, j, c, Q, HF.out.1, HBj.out, HSb.out, HO.out, HF.out.2.1, HF.out.2.2⟩
  case rest =>
  rename World => X2
  obtain ⟨a1, j1, c1, Q1, ht, hb, hbs, ho, hq1, hj1⟩ := hcut
  have HP2 := hid (HPX.out.gs hb ht hbs)
  have HX2z : Hid (X.heap.size ≤ X2.heap.size) := hb.size
  have HO2 := hid ho
  have HQ1 := hid (And.intro hq1 hj1)
  clear ht hb hbs ho hq1 hj1
  have HCT := hid (nTake g ra rn rc L (dO L).2 HSO.out.1)
  generalize dS (dO L).2 2 = q15 at HCT HdT
  generalize dK (dO L).2 2 = nT at HCT HdT HKT
  clear HPX HdO HKO
  go_upto_block 2 with (first | (go_at_call 26; refine (HCT.out _ HP2.out.tp).mono ?_; rintro x Y ⟨rfl, ht, hb⟩; have HPY := hid (HP2.out.went hb ht); have HOY := hid (HO2.out.but hb (fun k h1 _ e => by have := HXs.out; omega)); have HYz : Hid (X2.heap.size ≤ Y.heap.size) := hb.size; clear ht hb))
  clear HP2 HO2 HCT
  have HYs : Hid (g < Y.heap.size ∧ gs < Y.heap.size ∧ w.heap.size ≤ Y.heap.size) := ⟨HPY.out.tp.lt, HPY.out.bs.lt (by simp), HPY.out.bt.size⟩
  go_cut [13] from 96 (fun _ U => ∃ (a : Option Addr) (j c : Nat), Tp U g ra rn rc L (dT L).2 ∧ But (GS g gs) Y U ∧ Bx U gs [.slice a1 j1 c1, .slice a j c, .slice none 0 0, .int .i64 nx, .int .i64 px, .int .i64 ta] ∧ Ow U Y.heap.size 67 5 a j c ((dT L).1.map encT).flatten ∧ j < 65536)
  case first =>
    go_wp2_with fail
    go_loopw [13] (fun i U => ∃ (j : Nat) (a : Option Addr) (c : Nat) (T : List Tk) (qj : Qs), i = .int .i64 (j : Int) ∧ j ≤ nT ∧ rdD tD nT q15 = (T ++ (rdD tD (nT - j) qj).1, (rdD tD (nT - j) qj).2) ∧ T.length = j ∧ Tp U g ra rn rc L qj ∧ But (GS g gs) Y U ∧ Bx U gs [.slice a1 j1 c1, .slice a j c, .slice none 0 0, .int .i64 nx, .int .i64 px, .int .i64 ta] ∧ Ow U Y.heap.size 67 5 a j c (T.map encT).flatten) (fun i _ => nT - ivN i)
    case atStart => exact ⟨0, none, 0, [], q15, rfl, Nat.zero_le _, by simp, rfl, HPY.out.tp, But.refl _ _, HPY.out.bs, Ow.nil _ _ _ _⟩
    case round =>
      obtain ⟨j, a, c, T, qj, rfl, hj, hE, hTl, hT, hB, hS, hO⟩ := hrel
      have HE := hid hE
      have HTl := hid hTl
      have HT := hid hT
      have HBj := hid hB
      have HSb := hid hS
      have HO := hid hO
      obtain ⟨b2, b2f⟩ := hT.c2
      clear hE hTl hT hB hS hO
      cases hbad : qj.2 with
      | true =>
        rw [hbad] at b2
        have HF : Hid (Tp wr g ra rn rc L (dT L).2 ∧ Ow wr Y.heap.size 67 5 a j c ((dT L).1.map encT).flatten ∧ j < 65536) := by
          have e := HE.out
          rw [rdD_bad hbad] at e
          simp only [List.append_nil] at e
          rw [← HdT.out] at e
          rw [e]
          exact ⟨HT.out, HO.out, by have := HKT.out; omega⟩
        clear HE hbad
        by_cases hlt : j < nT
        · have hd : decide ((j : Int) < (nT : Int)) = true := by simp; omega
          go_wp2
          go_meet
          exact ⟨a, j, c, HF.out.1, HBj.out, HSb.out, HF.out.2.1, HF.out.2.2⟩
        · have hd : decide ((j : Int) < (nT : Int)) = false := by simp; omega
          go_wp2
          go_meet
          exact ⟨a, j, c, HF.out.1, HBj.out, HSb.out, HF.out.2.1, HF.out.2.2⟩
      | false =>
        rw [hbad] at b2
        by_cases hlt : j < nT
        · have hd : decide ((j : Int) < (nT : Int)) = true := by simp; omega
          have hko := HKT.out
          have HE3 : Hid (rdD tD nT q15 = ((T ++ [tDV qj]) ++ (rdD tD (nT - (j + 1)) (tDS qj)).1, (rdD tD (nT - (j + 1)) (tDS qj)).2)) := rdD_step HE.out hlt hbad
          have HQ := hid (dtok_any g ra rn rc L qj wr HT.out)
          have HEn : Hid (encT (tDV qj) = [.int .i64 (tDV qj).c.o, .int .u64 ((tDV qj).c.h : Int), .int .u64 ((tDV qj).c.l : Int), .int .i64 (tDV qj).r, .int .i64 (tDV qj).p]) := rfl
          generalize tDV qj = v at HQ HEn HE3
          generalize tDS qj = q3 at HQ HE3
          obtain ⟨⟨vo, vh, vl⟩, vr, vp⟩ := v
          simp only at HQ HEn
          clear HE hbad
          go_upto_region 31 with (first | (go_at_call 27; refine HQ.out.mono ?_; rintro x w2 ⟨rfl, ht2, hb2⟩; have HT2 := hid ht2; have HB2 := hid hb2; clear ht2 hb2))
          clear b2 b2f
          obtain ⟨V2, hV2⟩ : ∃ V, V = w2.alloc (Obj.cells #[.int .i64 vo, .int .u64 (vh : Int), .int .u64 (vl : Int), .int .i64 vr, .int .i64 vp] 67) := ⟨_, rfl⟩
          rw [← hV2]
          obtain ⟨k, hk⟩ : ∃ k, k = w2.heap.size := ⟨_, rfl⟩
          have HBv : Hid (Below w2.heap.size w2 V2) := by rw [hV2]; exact below1 _ _
          have HXk : Hid (Bx V2 k [.int .i64 vo, .int .u64 (vh : Int), .int .u64 (vl : Int), .int .i64 vr, .int .i64 vp]) := by rw [hk, hV2]; exact Bx.new w2 [.int .i64 vo, .int .u64 (vh : Int), .int .u64 (vl : Int), .int .i64 vr, .int .i64 vp] _
          have HTu := hid (HT2.out.later HBv.out)
          have HBg := hid (HB2.out.call HBv.out)
          rw [← hk]
          clear hV2 hk HBv HT2 HB2
          have HSu := hid (HSb.out.but HBg.out (by have := HPY.out.o2; have := HPY.out.o3; omega))
          obtain ⟨a5, c5, w5, hrun5, hO5, hbut5, hge5, -⟩ := ow_app 25 67 _ 5 40 Try.underlying25 info5t rfl (by omega) (by omega) (cs := [.int .i64 vo, .int .u64 (vh : Int), .int .u64 (vl : Int), .int .i64 vr, .int .i64 vp]) HO.out HBj.out.size HBg.out (fun k hk => by have := HYs.out; omega) rfl (one5 _ _ _ _ _) (by omega)
          have HRUN := hid hrun5
          have HO5 := hid hO5
          have HBu5 := hid hbut5
          have HGe : Hid (∀ k, Blk a k → Y.heap.size ≤ k) := fun k hk => (hge5 k hk).1
          clear hrun5 hO5 hbut5 hge5
          have HS5 := hid (HSu.out.but HBu5.out (fun hk => by have := HGe.out _ hk; have := HYs.out; omega))
          have y0 := HSu.out.cell 1 rfl
          have k0 := HXk.out.cell 0 rfl
          have k1 := HXk.out.cell 1 rfl
          have k2 := HXk.out.cell 2 rfl
          have k3 := HXk.out.cell 3 rfl
          have k4 := HXk.out.cell 4 rfl
          go_wp2_with (first | (at_builtin; refine wpList_append_known rfl _ _ 25 rfl _ _ rfl rfl _ w5 HRUN.out ?_; (have s0 := HS5.out.cell 1 rfl); (have s1 : w5.frozen? ⟨gs, 1, none⟩ = false := by have := (HS5.out.there 1 (by simp)).2; rwa [Nat.zero_add] at this)))
          have hbS : But (· = gs) w5 (w5.setCell ⟨gs, 1, none⟩ (.slice a5 (j + 1) c5)) := but_set (Below.refl _ _) gs 1 _
          refine ⟨⟨j + 1, a5, c5, T ++ [⟨⟨vo, vh, vl⟩, vr, vp⟩], q3, rfl, by omega, HE3.out, by simp [HTl.out], ?_, ?_, HS5.out.set1 1 _ (by simp), ?_⟩, by simp [ivN]; omega⟩
          · exact (HTu.out.but HBu5.out (fun hk => by have := HGe.out _ hk; have := HYs.out; omega) (fun h0 i hi hk => by have := HAb.out h0 i hi; have := HGe.out _ hk; have := HYs.out; omega)).but hbS (by have := HPY.out.o2; have := HPY.out.o3; omega) (fun h0 i hi e => by have := HAb.out h0 i hi; have := HPY.out.o1; have := HPY.out.o2; have := HPY.out.o3; omega)
          · exact ((HBj.out.trans (HBg.out.mono (fun i hi => .inl hi))).comp HBu5.out (fun i hi => .inr (HGe.out i hi))).trans (hbS.mono (fun i hi => .inr hi))
          · rw [List.map_append, List.flatten_append]
            exact (by simpa [HEn.out] using HO5.out : Ow w5 Y.heap.size 67 5 a5 (j + 1) c5 ((T.map encT).flatten ++ (List.map encT [⟨⟨vo, vh, vl⟩, vr, vp⟩]).flatten)).but hbS (fun i hi e => by have := HO5.out.blk i hi; have := HYs.out; omega)
        · have hd : decide ((j : Int) < (nT : Int)) = false := by simp; omega
          have HF : Hid (Tp wr g ra rn rc L (dT L).2 ∧ Ow wr Y.heap.size 67 5 a j c ((dT L).1.map encT).flatten ∧ j < 65536) := by
            have e := HE.out
            rw [show nT - j = 0 by omega] at e
            simp only [rdD, List.append_nil] at e
            rw [← HdT.out] at e
            rw [e]
            exact ⟨HT.out, HO.out, by have := HKT.out; omega⟩
          clear HE hbad
          go_wp2
          go_meet
          exact ⟨a, j, c, HF.out.1, HBj.out, HSb.out, HF.out.2.1, HF.out.2.2⟩
  case rest =>
  rename World => Y2
  obtain ⟨a2, j2, c2, ht, hb, hbs, ho, hj2⟩ := hcut
  have HP2 := hid (HPY.out.gs hb ht hbs)
  have HY2z : Hid (Y.heap.size ≤ Y2.heap.size) := hb.size
  have HOO := hid (HOY.out.but hb (fun k h1 _ e => by have := HXs.out; rcases e with e | e <;> omega))
  have HTT := hid (And.intro ho hj2)
  clear ht hb hbs ho hj2
  have HCP := hid (nTake g ra rn rc L (dT L).2 HST.out.1)
  generalize dS (dT L).2 2 = q16 at HCP HdP
  generalize dK (dT L).2 2 = nP at HCP HdP HKP
  clear HPY HdT HKT HOY
  go_upto_block 4 with (first | (go_at_call 26; refine (HCP.out _ HP2.out.tp).mono ?_; rintro x Z ⟨rfl, ht, hb⟩; have HPZ := hid (HP2.out.went hb ht); have HOZ := hid (HOO.out.but hb (fun k h1 _ e => by have := HXs.out; omega)); have HTZ : Hid (Ow Z Y.heap.size 67 5 a2 j2 c2 ((dT L).1.map encT).flatten) := HTT.out.1.but hb (fun i hi e => by have := HTT.out.1.blk i hi; have := HYs.out; omega); have HZz : Hid (Y2.heap.size ≤ Z.heap.size) := hb.size; clear ht hb))
  clear HP2 HOO HCP
  have HZs : Hid (g < Z.heap.size ∧ gs < Z.heap.size ∧ w.heap.size ≤ Z.heap.size) := ⟨HPZ.out.tp.lt, HPZ.out.bs.lt (by simp), HPZ.out.bt.size⟩
  go_cut [15] from 118 (fun _ U => ∃ (a : Option Addr) (j c : Nat) (R : List (Pc × Sl)), Tp U g ra rn rc L (dP L).2 ∧ But (GS g gs) Z U ∧ Bx U gs [.slice a1 j1 c1, .slice a2 j2 c2, .slice a j c, .int .i64 nx, .int .i64 px, .int .i64 ta] ∧ PrD U Z.heap.size a j c R ∧ R.map Prod.fst = (dP L).1 ∧ j < 65536)
  case first =>
    go_wp2_with fail
    go_loopw [15] (fun i U => ∃ (j : Nat) (a : Option Addr) (c : Nat) (R : List (Pc × Sl)) (qj : Qs), i = .int .i64 (j : Int) ∧ j ≤ nP ∧ rdD pD nP q16 = (R.map Prod.fst ++ (rdD pD (nP - j) qj).1, (rdD pD (nP - j) qj).2) ∧ Sml qj ∧ Tp U g ra rn rc L qj ∧ But (GS g gs) Z U ∧ Bx U gs [.slice a1 j1 c1, .slice a2 j2 c2, .slice a j c, .int .i64 nx, .int .i64 px, .int .i64 ta] ∧ PrD U Z.heap.size a j c R) (fun i _ => nP - ivN i)
    case atStart => exact ⟨0, none, 0, [], q16, rfl, Nat.zero_le _, by simp, HPZ.out.tp.small, HPZ.out.tp, But.refl _ _, HPZ.out.bs, ⟨rfl, Ow.nil _ _ _ _, fun p hp => (by cases hp)⟩⟩
    case round =>
      obtain ⟨j, a, c, R, qj, rfl, hj, hE, hsm, hT, hB, hS, hO⟩ := hrel
      have HE := hid hE
      have HSj := hid hsm
      have HT := hid hT
      have HBj := hid hB
      have HSb := hid hS
      have HO := hid hO
      obtain ⟨b2, b2f⟩ := hT.c2
      clear hE hsm hT hB hS hO
      cases hbad : qj.2 with
      | true =>
        rw [hbad] at b2
        have HF : Hid (Tp wr g ra rn rc L (dP L).2 ∧ R.map Prod.fst = (dP L).1 ∧ j < 65536) := by
          have e := HE.out
          rw [rdD_bad hbad] at e
          simp only [List.append_nil] at e
          rw [← HdP.out] at e
          rw [e]
          exact ⟨HT.out, rfl, by have := HKP.out; omega⟩
        clear HE hbad
        by_cases hlt : j < nP
        · have hd : decide ((j : Int) < (nP : Int)) = true := by simp; omega
          go_wp2
          go_meet
          exact ⟨a, j, c, R, HF.out.1, HBj.out, HSb.out, HO.out, HF.out.2.1, HF.out.2.2⟩
        · have hd : decide ((j : Int) < (nP : Int)) = false := by simp; omega
          go_wp2
          go_meet
          exact ⟨a, j, c, R, HF.out.1, HBj.out, HSb.out, HO.out, HF.out.2.1, HF.out.2.2⟩
      | false =>
        rw [hbad] at b2
        by_cases hlt : j < nP
        · have hd : decide ((j : Int) < (nP : Int)) = true := by simp; omega
          have hko := HKP.out
          have HE3 : Hid (rdD pD nP q16 = ((R.map Prod.fst ++ [(pD qj).1]) ++ (rdD pD (nP - (j + 1)) (pD qj).2).1, (rdD pD (nP - (j + 1)) (pD qj).2).2)) := rdD_step HE.out hlt hbad
          have HS3 : Hid (Sml (pD qj).2) := (pD_all HSj.out).2
          have HQ := hid (pTake g ra rn rc L qj HSj.out)
          have HKl : Hid (dK (dS qj 2) 1 < 256) := dK_lt (HSj.out.dS 2) 1
          have HPd : Hid ((pD qj).1 = ⟨dV qj 2, (rdD cD (dK (dS qj 2) 1) (dS (dS qj 2) 1)).1⟩ ∧ (pD qj).2 = (rdD cD (dK (dS qj 2) 1) (dS (dS qj 2) 1)).2) := ⟨rfl, rfl⟩
          rw [HPd.out.1, HPd.out.2] at HE3
          rw [HPd.out.2] at HS3
          clear HPd
          obtain ⟨lc, hlc⟩ : ∃ x, x = (rdD cD (dK (dS qj 2) 1) (dS (dS qj 2) 1)).1 := ⟨_, rfl⟩
          obtain ⟨q3, hq3⟩ : ∃ x, x = (rdD cD (dK (dS qj 2) 1) (dS (dS qj 2) 1)).2 := ⟨_, rfl⟩
          rw [← hlc, ← hq3] at HE3
          rw [← hq3] at HS3
          have HLC : Hid (rdD cD (dK (dS qj 2) 1) (dS (dS qj 2) 1) = (lc, q3)) := by unfold Hid; rw [hlc, hq3]
          clear hlc hq3
          generalize dK (dS qj 2) 1 = nb at HQ HLC HKl
          generalize dS (dS qj 2) 1 = q2 at HQ HLC
          generalize dV qj 2 = id at HQ HE3
          generalize dS qj 2 = q1 at HQ
          clear HE hbad
          go_upto_region 37 with (first | (go_at_call 26; refine (HQ.out.1 _ HT.out).mono ?_; rintro x w2 ⟨rfl, ht2, hb2⟩; have HT2 := hid ht2; have HB2 := hid hb2; clear ht2 hb2))
          clear b2 b2f
          obtain ⟨V2, hV2⟩ : ∃ V, V = w2.alloc (Obj.cells #[.int .i64 id, .slice none 0 0] 51) := ⟨_, rfl⟩
          rw [← hV2]
          obtain ⟨k, hk⟩ : ∃ k, k = w2.heap.size := ⟨_, rfl⟩
          have HBv : Hid (Below w2.heap.size w2 V2) := by rw [hV2]; exact below1 _ _
          have HX2 : Hid (Bx V2 k [.int .i64 id, .slice none 0 0]) := by rw [hk, hV2]; exact Bx.new w2 [.int .i64 id, .slice none 0 0] _
          have HK2 : Hid (wr.heap.size ≤ k ∧ Z.heap.size ≤ k ∧ k < V2.heap.size) := ⟨by rw [hk]; exact HB2.out.size, by rw [hk]; exact Nat.le_trans HBj.out.size HB2.out.size, by rw [hk, hV2]; simp⟩
          have HTv := hid (HT2.out.later HBv.out)
          have HBw := hid (HB2.out.call HBv.out)
          rw [← hk]
          clear hV2 hk HBv HT2 HB2
          go_upto_block 6 with (first | (go_at_call 26; refine (HQ.out.2 _ HTv.out).mono ?_; rintro x w3 ⟨rfl, ht3, hb3⟩; have HT3 := hid ht3; have HB3 := hid hb3; clear ht3 hb3))
          have HX3 := hid (HX2.out.but HB3.out (by have := HK2.out; have := HZs.out; omega))
          have HB3w := hid (HBw.out.trans HB3.out)
          have HK3 : Hid (k < w3.heap.size) := by unfold Hid; have := HB3.out.size; have := HK2.out; omega
          clear HX2 HTv HBw HB3 HQ
          go_cut [18] from 135 to 154 (fun _ U => ∃ (b : Option Addr) (m d : Nat), m ≤ 255 ∧ Tp U g ra rn rc L q3 ∧ But (· = g) wr U ∧ Bx U k [.int .i64 id, .slice b m d] ∧ Ow U (k + 1) 65 3 b m d (lc.map encC).flatten)
          case first =>
            go_wp2_with fail
            go_loopw [18] (fun i U => ∃ (m : Nat) (b : Option Addr) (d : Nat) (M : List Cp) (qm : Qs), i = .int .i64 (m : Int) ∧ m ≤ nb ∧ rdD cD nb q2 = (M ++ (rdD cD (nb - m) qm).1, (rdD cD (nb - m) qm).2) ∧ M.length = m ∧ Tp U g ra rn rc L qm ∧ But (· = g) wr U ∧ Bx U k [.int .i64 id, .slice b m d] ∧ Ow U (k + 1) 65 3 b m d (M.map encC).flatten ∧ k < U.heap.size) (fun i _ => nb - ivN i)
            case atStart => exact ⟨0, none, 0, [], q2, rfl, Nat.zero_le _, by simp, rfl, HT3.out, HB3w.out, HX3.out, Ow.nil _ _ _ _, HK3.out⟩
            case round =>
              obtain ⟨m, b, d, M, qm, rfl, hm, hE, hMl, hTm, hBm, hXm, hOm, hkm⟩ := hrel
              have HE := hid hE
              have HMl := hid hMl
              have HTm := hid hTm
              have HBm := hid hBm
              have HXm := hid hXm
              have HOm := hid hOm
              have HKm := hid hkm
              rename World => wi
              obtain ⟨b2, b2f⟩ := hTm.c2
              clear hE hMl hTm hBm hXm hOm hkm
              cases hbad : qm.2 with
              | true =>
                rw [hbad] at b2
                have HF : Hid (Tp wi g ra rn rc L q3 ∧ Ow wi (k + 1) 65 3 b m d (lc.map encC).flatten ∧ m ≤ 255) := by
                  have e := HE.out
                  rw [rdD_bad hbad, HLC.out] at e
                  simp only [List.append_nil, Prod.mk.injEq] at e
                  rw [e.1, e.2]
                  exact ⟨HTm.out, HOm.out, by have := HKl.out; omega⟩
                clear HE hbad
                by_cases hlm : m < nb
                · have hd : decide ((m : Int) < (nb : Int)) = true := by simp; omega
                  go_wp2
                  go_meet
                  exact ⟨b, m, d, HF.out.2.2, HF.out.1, HBm.out, HXm.out, HF.out.2.1⟩
                · have hd : decide ((m : Int) < (nb : Int)) = false := by simp; omega
                  go_wp2
                  go_meet
                  exact ⟨b, m, d, HF.out.2.2, HF.out.1, HBm.out, HXm.out, HF.out.2.1⟩
              | false =>
                rw [hbad] at b2
                by_cases hlm : m < nb
                · have hd : decide ((m : Int) < (nb : Int)) = true := by simp; omega
                  have hkl := HKl.out
                  have HE4 : Hid (rdD cD nb q2 = ((M ++ [cDV qm]) ++ (rdD cD (nb - (m + 1)) (cDS qm)).1, (rdD cD (nb - (m + 1)) (cDS qm)).2)) := rdD_step HE.out hlm hbad
                  have HQ := hid (dcap_any g ra rn rc L qm wi HTm.out)
                  have HEn : Hid (encC (cDV qm) = [.int .i64 (cDV qm).o, .int .u64 ((cDV qm).h : Int), .int .u64 ((cDV qm).l : Int)]) := rfl
                  generalize cDV qm = v at HQ HEn HE4
                  generalize cDS qm = q4 at HQ HE4
                  obtain ⟨vo, vh, vl⟩ := v
                  simp only at HQ HEn
                  clear HE hbad
                  go_upto_region 42 with (first | (go_at_call 28; refine HQ.out.mono ?_; rintro x w2 ⟨rfl, ht2, hb2⟩; have HT2 := hid ht2; have HB2 := hid hb2; clear ht2 hb2))
                  clear b2 b2f
                  obtain ⟨V2, hV2⟩ : ∃ V, V = w2.alloc (Obj.cells #[.int .i64 vo, .int .u64 (vh : Int), .int .u64 (vl : Int)] 65) := ⟨_, rfl⟩
                  rw [← hV2]
                  obtain ⟨k2, hk2⟩ : ∃ k, k = w2.heap.size := ⟨_, rfl⟩
                  have HBv : Hid (Below w2.heap.size w2 V2) := by rw [hV2]; exact below1 _ _
                  have HXk : Hid (Bx V2 k2 [.int .i64 vo, .int .u64 (vh : Int), .int .u64 (vl : Int)]) := by rw [hk2, hV2]; exact Bx.new w2 [.int .i64 vo, .int .u64 (vh : Int), .int .u64 (vl : Int)] _
                  have HTu := hid (HT2.out.later HBv.out)
                  have HBg := hid (HB2.out.call HBv.out)
                  rw [← hk2]
                  clear hV2 hk2 HBv HT2 HB2
                  have HXu := hid (HXm.out.but HBg.out (by have := HK2.out; have := HZs.out; omega))
                  obtain ⟨a5, c5, w5, hrun5, hO5, hbut5, hge5, -⟩ := ow_app 49 65 _ 3 24 Try.underlying49 infoC3 rfl (by omega) (by omega) (cs := [.int .i64 vo, .int .u64 (vh : Int), .int .u64 (vl : Int)]) HOm.out HKm.out HBg.out (fun i hi => by have := HK2.out; have := HZs.out; omega) rfl (one3 _ _ _) (by omega)
                  have HRUN := hid hrun5
                  have HO5 := hid hO5
                  have HBu5 := hid hbut5
                  have HGe : Hid (∀ i, Blk b i → k + 1 ≤ i) := fun i hi => (hge5 i hi).1
                  clear hrun5 hO5 hbut5 hge5
                  have HX5 := hid (HXu.out.but HBu5.out (fun hk => by have := HGe.out _ hk; omega))
                  have y0 := HXu.out.cell 1 rfl
                  have k0 := HXk.out.cell 0 rfl
                  have k1 := HXk.out.cell 1 rfl
                  have k3 := HXk.out.cell 2 rfl
                  go_wp2_with (first | (at_builtin; refine wpList_append_known rfl _ _ 49 rfl _ _ rfl rfl _ w5 HRUN.out ?_; (have s0 := HX5.out.cell 1 rfl); (have s1 : w5.frozen? ⟨k, 1, none⟩ = false := by have := (HX5.out.there 1 (by simp)).2; rwa [Nat.zero_add] at this)))
                  have hbS : But (· = k) w5 (w5.setCell ⟨k, 1, none⟩ (.slice a5 (m + 1) c5)) := but_set (Below.refl _ _) k 1 _
                  have hkz := HK2.out
                  have hzs := HZs.out
                  refine ⟨⟨m + 1, a5, c5, M ++ [⟨vo, vh, vl⟩], q4, rfl, by omega, HE4.out, by simp [HMl.out], ?_, ?_, HX5.out.set1 1 _ (by simp), ?_, ?_⟩, by simp [ivN]; omega⟩
                  · exact (HTu.out.but HBu5.out (fun hk => by have := HGe.out _ hk; omega) (fun h0 i hi hk => by have := HAb.out h0 i hi; have := HGe.out _ hk; omega)).but hbS (by omega) (fun h0 i hi e => by have := HAb.out h0 i hi; omega)
                  · exact ((HBm.out.trans HBg.out).comp HBu5.out (fun i hi => .inr (by have := HGe.out i hi; omega))).comp hbS (fun i hi => .inr (by omega))
                  · rw [List.map_append, List.flatten_append]
                    exact (by simpa [HEn.out] using HO5.out : Ow w5 (k + 1) 65 3 a5 (m + 1) c5 ((M.map encC).flatten ++ (List.map encC [⟨vo, vh, vl⟩]).flatten)).but hbS (fun i hi e => by have := HO5.out.blk i hi; omega)
                  · have h1 := HBg.out.size
                    have h2 := HBu5.out.size
                    have h3 := HKm.out
                    have h4 := hbS.size
                    omega
                · have hd : decide ((m : Int) < (nb : Int)) = false := by simp; omega
                  have HF : Hid (Tp wi g ra rn rc L q3 ∧ Ow wi (k + 1) 65 3 b m d (lc.map encC).flatten ∧ m ≤ 255) := by
                    have e := HE.out
                    rw [show nb - m = 0 by omega, HLC.out] at e
                    simp only [rdD, List.append_nil, Prod.mk.injEq] at e
                    rw [e.1, e.2]
                    exact ⟨HTm.out, HOm.out, by have := HKl.out; omega⟩
                  clear HE hbad
                  go_wp2
                  go_meet
                  exact ⟨b, m, d, HF.out.2.2, HF.out.1, HBm.out, HXm.out, HF.out.2.1⟩
          case rest =>
          rename World => U4
          obtain ⟨b4, m4, d4, hm4, ht4, hbg, hxk, ho4⟩ := hcut
          have HM4 := hid hm4
          have HTu := hid ht4
          have HBg := hid hbg
          have HXk := hid hxk
          have HOu : Hid (Ow U4 wr.heap.size 65 3 b4 m4 d4 (lc.map encC).flatten) := ho4.mono (by have := HK2.out; omega)
          clear hm4 ht4 hbg hxk ho4 HLC HT3 HX3 HB3w HKl
          have HSu := hid (HSb.out.but HBg.out (by have := HPZ.out.o2; have := HPZ.out.o3; omega))
          obtain ⟨a5, c5, w5, hrun5, hO5, hbut5, hge5⟩ := pr_app HBj.out.size HO.out HBg.out HZs.out.1 id lc b4 m4 d4 HM4.out HOu.out (by omega)
          have HRUN := hid hrun5
          have HO5 := hid hO5
          have HBu5 := hid hbut5
          have HGe := hid hge5
          clear hrun5 hO5 hbut5 hge5
          have HS5 := hid (HSu.out.but HBu5.out (fun hk => by have := HGe.out _ hk; have := HZs.out; omega))
          have y0 := HSu.out.cell 2 rfl
          have k0 := HXk.out.cell 0 rfl
          have k1 := HXk.out.cell 1 rfl
          go_wp2_with (first | (at_builtin; refine wpList_append_known rfl _ _ 26 rfl _ _ rfl rfl _ w5 HRUN.out ?_; (have s0 := HS5.out.cell 2 rfl); (have s1 : w5.frozen? ⟨gs, 2, none⟩ = false := by have := (HS5.out.there 2 (by simp)).2; rwa [Nat.zero_add] at this)))
          have hbS : But (· = gs) w5 (w5.setCell ⟨gs, 2, none⟩ (.slice a5 (j + 1) c5)) := but_set (Below.refl _ _) gs 2 _
          have o1 := HPZ.out.o1
          have o2 := HPZ.out.o2
          have o3 := HPZ.out.o3
          have hzs := HZs.out
          refine ⟨⟨j + 1, a5, c5, R ++ [(⟨id, lc⟩, ⟨b4, m4, d4⟩)], q3, rfl, by omega, by rw [List.map_append]; exact HE3.out, HS3.out, ?_, ?_, HS5.out.set1 2 _ (by simp), ?_⟩, by simp [ivN]; omega⟩
          · exact (HTu.out.but HBu5.out (fun hk => by have := HGe.out _ hk; omega) (fun h0 i hi hk => by have := HAb.out h0 i hi; have := HGe.out _ hk; omega)).but hbS (by omega) (fun h0 i hi e => by have := HAb.out h0 i hi; omega)
          · exact ((HBj.out.trans (HBg.out.mono (fun i hi => .inl hi))).comp HBu5.out (fun i hi => .inr (HGe.out i hi))).trans (hbS.mono (fun i hi => .inr hi))
          · exact HO5.out.but hbS (fun i h1 _ e => by omega)
        · have hd : decide ((j : Int) < (nP : Int)) = false := by simp; omega
          have HF : Hid (Tp wr g ra rn rc L (dP L).2 ∧ R.map Prod.fst = (dP L).1 ∧ j < 65536) := by
            have e := HE.out
            rw [show nP - j = 0 by omega] at e
            simp only [rdD, List.append_nil] at e
            rw [← HdP.out] at e
            rw [e]
            exact ⟨HT.out, rfl, by have := HKP.out; omega⟩
          clear HE hbad
          go_wp2
          go_meet
          exact ⟨a, j, c, R, HF.out.1, HBj.out, HSb.out, HO.out, HF.out.2.1, HF.out.2.2⟩
  case rest =>
  rename World => Z2
  obtain ⟨a3, j3, c3, R3, ht, hb, hbs, hp, hr3, hj3⟩ := hcut
  have HPF := hid (HPZ.out.gs hb ht hbs)
  obtain ⟨s, hs⟩ : ∃ s, s = dSt L := ⟨_, rfl⟩
  have hsO : s.O = (dO L).1 := by rw [hs, HdS.out]
  have hsT : s.T = (dT L).1 := by rw [hs, HdS.out]
  have hsP : s.P = (dP L).1 := by rw [hs, HdS.out]
  have hs2 : s.nx = nx ∧ s.px = px ∧ s.ta = ta := by rw [hs, HdS.out]; exact ⟨rfl, rfl, rfl⟩
  have hT1 := HTZ.out
  have hq1 := HQ1.out.1
  have ho1 := HSO.out.2
  have ho2 := HST.out.2
  have ho3 := HSP.out
  rw [← hsT] at hT1 ho2
  rw [← hsO] at hq1 ho1
  rw [← hsP] at hr3 ho3
  have HSmF := hid (sm_fin (a := ⟨a1, j1, c1⟩) (b := ⟨a2, j2, c2⟩) (d := ⟨a3, j3, c3⟩) HOZ.out hT1 hb hp HXs.out.1 HXs.out.2.1 (Nat.le_trans HX2z.out HYz.out) (Nat.le_trans HY2z.out HZz.out) hq1 hr3 HQ1.out.2 HTT.out.2 hj3 ho1 ho2 ho3)
  clear hsO hsT hsP hT1 hq1 ho1 ho2 ho3
  clear ht hb hbs hp hr3 hj3 HOZ HTZ HPZ HTT HQ1 HSO HST HSP HdP HKP HX2z HYz HY2z HZz HYs HZs
  have HAt := hid HPF.out.tp.c1
  obtain ⟨b2, b2f⟩ := HPF.out.tp.c2
  have HCk := hid rcheck_any
  rw [← hs] at HdB
  have HSe := hid hs
  obtain ⟨cf, hcf⟩ : ∃ c, c = dC L := ⟨_, rfl⟩
  have HCF : Hid (cf = ⟨x0, x1, x2, x3, x4, x5, x6, x7, x8, x9⟩) := by unfold Hid; rw [hcf, HdC.out]
  rw [← hcf] at HdB
  have HCe := hid hcf
  clear hs hcf HdS HdC
  generalize (dP L).2 = e at HdB HAt b2 b2f HPF
  have HRB := hid HPF.out.bt
  have HX0 := hid HPF.out.r2
  have HX1 := hid HPF.out.r3
  have HLD6 : Hid ((Instr.loadAt 23 (.pointer (some ⟨gc, 0, none⟩))).run Try.prog Z2 = .ok (.agg #[.int .i64 x0, .int .i64 x1, .int .i64 x2, .int .i64 x3, .int .i64 x4, .int .i64 x5, .int .i64 x6, .int .i64 x7, .int .i64 x8, .int .i64 x9]) Z2) := ldF HPF.out.bc.range rfl
  have HLD7 : Hid ((Instr.loadAt 28 (.pointer (some ⟨gs, 0, none⟩))).run Try.prog Z2 = .ok (.agg #[.slice a1 j1 c1, .slice a2 j2 c2, .slice a3 j3 c3, .int .i64 nx, .int .i64 px, .int .i64 ta]) Z2) := ldS HPF.out.bs.range rfl
  have HHs := hid hs2
  clear hs2
  have hmk : (⟨#[115, 101, 115, 97, 109, 101, 32, 49]⟩ : ByteArray) = strB mkB := by rfl
  have HCmp : Hid (∀ x y : ByteArray, x ≠ y → (x.toList == y.toList) = false) := fun x y hxy => by
    rw [Bool.eq_false_iff]
    intro e
    apply hxy
    have e2 := eq_of_beq e
    apply ByteArray.ext
    apply Array.ext'
    rw [ByteArray.toList_eq, ByteArray.toList_eq] at e2
    exact e2
  cases hq2 : e.2 with
  | true =>
    rw [hq2] at b2
    have HNo : Hid (dB L = false) := by unfold Hid; rw [HdB.out, hq2]; rfl
    clear hq2
    obtain ⟨V5, V6, hs1, hs2, hl1, hl2, hb6, hbt, hbt5⟩ := two_res (L1 := [.int .i64 0, .int .i64 0, .int .i64 0, .int .i64 0, .int .i64 0, .int .i64 0, .int .i64 0, .int .i64 0, .int .i64 0, .int .i64 0]) (L2 := [.slice none 0 0, .slice none 0 0, .slice none 0 0, .int .i64 0, .int .i64 0, .int .i64 0]) HRB.out HX0.out HX1.out rfl rfl rfl rfl (cf_one cf0) (st_one sl0 sl0 sl0 0 0 0)
    have HS1 := hid hs1
    have HS2 := hid hs2
    have HF := hid hb6
    clear hs1 hs2 hb6 hbt hbt5
    go_wp2_with (first | ((with_reducible refine st_arm HS1.out ?_ ?_ ?_); (· rfl); (· rfl)) | ((with_reducible refine st_arm HS2.out ?_ ?_ ?_); (· rfl); (· rfl)))
    exact bodyPost_ret (v := .tuple #[cf0.v, stV sl0 sl0 sl0 0 0 0, .int .i64 21]) (by simp [results, Try.results10, asAddr, Act.put, hl1, hl2, cf0]) rfl ⟨HF.out, (fun e => by rw [HNo.out] at e; exact absurd e (by simp)), fun _ => rfl⟩
  | false =>
    rw [hq2] at b2
    by_cases hmg : mg = mkB
    · by_cases he : e.1 = []
      · obtain ⟨k, hkn, hdr, hlk⟩ := HAt.out
        obtain rfl : k = rn := by
          have h1 : (L.drop k).length = 0 := by rw [← hdr, he]; rfl
          rw [List.length_drop, HLn.out] at h1
          omega
        obtain ⟨y1, y1f⟩ := hlk
        subst hmg
        have HCk4 := hid (HCk.out cf s ⟨a1, j1, c1⟩ ⟨a2, j2, c2⟩ ⟨a3, j3, c3⟩ Q1 R3 Z2 (HSmF.out (fun _ => False) Z2 (But.refl _ _) (fun _ _ h => h)) 4096)
        rw [HHs.out.1, HHs.out.2.1, HHs.out.2.2] at HCk4
        by_cases hck : chk cf s 4096 = 0
        · have HYes : Hid (dB L = true) := by unfold Hid; rw [HdB.out, hq2, he, hck]; rfl
          have HCk5 : Hid (Calls Try.prog 5 #[.agg #[.int .i64 x0, .int .i64 x1, .int .i64 x2, .int .i64 x3, .int .i64 x4, .int .i64 x5, .int .i64 x6, .int .i64 x7, .int .i64 x8, .int .i64 x9], .agg #[.slice a1 j1 c1, .slice a2 j2 c2, .slice a3 j3 c3, .int .i64 nx, .int .i64 px, .int .i64 ta], .int .i64 4096] Z2 fun e w' => e = .returned (.int .i64 0) ∧ Below Z2.heap.size Z2 w') := by
            unfold Hid
            have := HCk4.out
            rw [hck, HCF.out] at this
            exact this
          clear hck hq2 HCk4 HCk hdr he hkn
          go_upto_region 46 with (first | ((with_reducible refine ld_armg HLD6.out ?_ ?_ ?_); (· rfl); (· rfl)) | ((with_reducible refine ld_armg HLD7.out ?_ ?_ ?_); (· rfl); (· rfl)) | (go_at_call 5; refine HCk5.out.mono ?_; rintro x w6 ⟨rfl, hbk⟩; have HBK := hid hbk; clear hbk))
          have HBK2 : Hid (Below Z2.heap.size Z2 w6.drew) := below_call HBK.out (Below.refl _ _).drew
          obtain ⟨V5, V6, hs1, hs2, hl1, hl2, hb6, hbt, hbt5⟩ := two_res (L1 := [.int .i64 x0, .int .i64 x1, .int .i64 x2, .int .i64 x3, .int .i64 x4, .int .i64 x5, .int .i64 x6, .int .i64 x7, .int .i64 x8, .int .i64 x9]) (L2 := [.slice a1 j1 c1, .slice a2 j2 c2, .slice a3 j3 c3, .int .i64 nx, .int .i64 px, .int .i64 ta]) (V := w6.drew) (below_call HRB.out HBK2.out) (HX0.out.later HBK2.out) (HX1.out.later HBK2.out) rfl rfl rfl rfl (cf_one ⟨x0, x1, x2, x3, x4, x5, x6, x7, x8, x9⟩) (st_one ⟨a1, j1, c1⟩ ⟨a2, j2, c2⟩ ⟨a3, j3, c3⟩ nx px ta)
          have HS1 := hid hs1
          have HS2 := hid hs2
          have HF := hid hb6
          have hgg : w.heap.size + 1 < gc ∧ w.heap.size + 1 < gs := ⟨by have := HPF.out.o1; have := HPF.out.o2; omega, by have := HPF.out.o1; have := HPF.out.o2; have := HPF.out.o3; omega⟩
          have HS5 : Hid (V5.rangeAt gc 0 [.int .i64 x0, .int .i64 x1, .int .i64 x2, .int .i64 x3, .int .i64 x4, .int .i64 x5, .int .i64 x6, .int .i64 x7, .int .i64 x8, .int .i64 x9] ∧ V5.rangeAt gs 0 [.slice a1 j1 c1, .slice a2 j2 c2, .slice a3 j3 c3, .int .i64 nx, .int .i64 px, .int .i64 ta]) := ⟨((HPF.out.bc.later HBK2.out).but hbt5 (fun e => by omega)).range, ((HPF.out.bs.later HBK2.out).but hbt5 (fun e => by omega)).range⟩
          have HS6 : Hid (V6.rangeAt gc 0 [.int .i64 x0, .int .i64 x1, .int .i64 x2, .int .i64 x3, .int .i64 x4, .int .i64 x5, .int .i64 x6, .int .i64 x7, .int .i64 x8, .int .i64 x9] ∧ V6.rangeAt gs 0 [.slice a1 j1 c1, .slice a2 j2 c2, .slice a3 j3 c3, .int .i64 nx, .int .i64 px, .int .i64 ta]) := ⟨((HPF.out.bc.later HBK2.out).but hbt (fun e => by omega)).range, ((HPF.out.bs.later HBK2.out).but hbt (fun e => by omega)).range⟩
          have HSmV : Hid (Sm V6 s ⟨a1, j1, c1⟩ ⟨a2, j2, c2⟩ ⟨a3, j3, c3⟩ Q1 R3) := HSmF.out _ V6 ((But.of (S := fun k => k = w.heap.size ∨ k = w.heap.size + 1) HBK2.out).trans hbt) (fun k hk e => by have := HXs.out; have := HPF.out.o1; omega)
          have HS4 : Hid ((w6.drew).rangeAt gc 0 [.int .i64 x0, .int .i64 x1, .int .i64 x2, .int .i64 x3, .int .i64 x4, .int .i64 x5, .int .i64 x6, .int .i64 x7, .int .i64 x8, .int .i64 x9] ∧ (w6.drew).rangeAt gs 0 [.slice a1 j1 c1, .slice a2 j2 c2, .slice a3 j3 c3, .int .i64 nx, .int .i64 px, .int .i64 ta]) := ⟨(HPF.out.bc.later HBK2.out).range, (HPF.out.bs.later HBK2.out).range⟩
          clear hs1 hs2 hb6 hbt hbt5 hgg
          refine wp_region_held_drew (S := (fun U : World => U.rangeAt gc 0 [.int .i64 x0, .int .i64 x1, .int .i64 x2, .int .i64 x3, .int .i64 x4, .int .i64 x5, .int .i64 x6, .int .i64 x7, .int .i64 x8, .int .i64 x9] ∧ U.rangeAt gs 0 [.slice a1 j1 c1, .slice a2 j2 c2, .slice a3 j3 c3, .int .i64 nx, .int .i64 px, .int .i64 ta])) (by kernel_rfl) (HS4.out) (fun hHeld => ?_)
          refine wpAnyH_norm (l2 := #[false, false, false, false, false]) (f2 := 5) (by kernel_rfl) (by kernel_rfl) ?_
          refine wpAnyH_take (i := 0) (oi := _) (v := .agg #[.int .i64 x0, .int .i64 x1, .int .i64 x2, .int .i64 x3, .int .i64 x4, .int .i64 x5, .int .i64 x6, .int .i64 x7, .int .i64 x8, .int .i64 x9]) rfl (by kernel_rfl) (by kernel_rfl) (by kernel_rfl) (fun _ _ _ h => h) (Or.inl ⟨by rfl, ?_⟩) (by assumption) ?_
          · (intro w hSw; (try dsimp only at hSw); exact ex_ld rfl rfl (ldF hSw.1 rfl))
          simp only [List.getElem_toArray, List.getElem_cons_succ, List.getElem_cons_zero, Act.put, List.setIfInBounds_toArray, List.set_cons_zero, List.set_cons_succ]
          refine wpAnyH_norm (l2 := #[true, false, false, false, false]) (f2 := 4) (by kernel_rfl) (by kernel_rfl) ?_
          refine wpAnyH_take (i := 1) (oi := _) (v := .agg #[.slice a1 j1 c1, .slice a2 j2 c2, .slice a3 j3 c3, .int .i64 nx, .int .i64 px, .int .i64 ta]) rfl (by kernel_rfl) (by kernel_rfl) (by kernel_rfl) (fun _ _ _ h => h) (Or.inl ⟨by rfl, ?_⟩) (by assumption) ?_
          · (intro w hSw; (try dsimp only at hSw); exact ex_ld rfl rfl (ldS hSw.2 rfl))
          simp only [List.getElem_toArray, List.getElem_cons_succ, List.getElem_cons_zero, Act.put, List.setIfInBounds_toArray, List.set_cons_zero, List.set_cons_succ]
          refine wpAnyH_norm (l2 := #[true, true, false, false, false]) (f2 := 3) (by kernel_rfl) (by kernel_rfl) ?_
          refine wpAnyH_ready (rs := [2]) (by kernel_rfl) (by simp) ?_
          refine AllReadyH.cons rfl (fun K hK => ?_) AllReadyH.nil
          refine wp_st rfl rfl rfl HS1.out ?_
          refine hK.out _ _ (HS5.out) (fun hHeld => ?_)
          clear hK K
          simp only [List.getElem_toArray, List.getElem_cons_succ, List.getElem_cons_zero, Act.put, List.setIfInBounds_toArray, List.set_cons_zero, List.set_cons_succ]
          refine wpAnyH_norm (l2 := #[true, true, true, false, false]) (f2 := 2) (by kernel_rfl) (by kernel_rfl) ?_
          refine wpAnyH_ready (rs := [3]) (by kernel_rfl) (by simp) ?_
          refine AllReadyH.cons rfl (fun K hK => ?_) AllReadyH.nil
          refine wp_st rfl rfl rfl HS2.out ?_
          refine hK.out _ _ (HS6.out) (fun hHeld => ?_)
          clear hK K
          simp only [List.getElem_toArray, List.getElem_cons_succ, List.getElem_cons_zero, Act.put, List.setIfInBounds_toArray, List.set_cons_zero, List.set_cons_succ]
          refine wpAnyH_norm (l2 := #[true, true, true, true, false]) (f2 := 1) (by kernel_rfl) (by kernel_rfl) ?_
          refine wpAnyH_ready (rs := [4]) (by kernel_rfl) (by simp) ?_
          refine AllReadyH.cons rfl (fun K hK => ?_) AllReadyH.nil
          go_simp
          refine hK.out _ _ (HS6.out) (fun hHeld => ?_)
          clear hK K
          simp only [List.getElem_toArray, List.getElem_cons_succ, List.getElem_cons_zero, Act.put, List.setIfInBounds_toArray, List.set_cons_zero, List.set_cons_succ]
          refine wpAnyH_norm (l2 := #[true, true, true, true, true]) (f2 := 0) (by kernel_rfl) (by kernel_rfl) ?_
          refine wpAnyH_done (by kernel_rfl) ?_ _
          go_wp2
          exact bodyPost_ret (v := .tuple #[.agg #[.int .i64 x0, .int .i64 x1, .int .i64 x2, .int .i64 x3, .int .i64 x4, .int .i64 x5, .int .i64 x6, .int .i64 x7, .int .i64 x8, .int .i64 x9], .agg #[.slice a1 j1 c1, .slice a2 j2 c2, .slice a3 j3 c3, .int .i64 nx, .int .i64 px, .int .i64 ta], .int .i64 0]) (by simp [results, Try.results10, asAddr, Act.put, hl1, hl2]) rfl ⟨HF.out, fun _ => ⟨⟨a1, j1, c1⟩, ⟨a2, j2, c2⟩, ⟨a3, j3, c3⟩, Q1, R3, by rw [← HSe.out, ← HCe.out, HCF.out, HHs.out.1, HHs.out.2.1, HHs.out.2.2], by rw [← HSe.out]; exact HSmV.out⟩, fun e => by rw [HYes.out] at e; exact absurd e (by simp)⟩
        · have HNo : Hid (dB L = false) := by unfold Hid; rw [HdB.out, decide_eq_false hck]; simp
          have hk2 : (((chk cf s 4096 : Nat) : Int) != 0) = true := by simp; omega
          have HCk5 : Hid (∃ kk : Nat, ((kk : Int) != 0) = true ∧ Calls Try.prog 5 #[.agg #[.int .i64 x0, .int .i64 x1, .int .i64 x2, .int .i64 x3, .int .i64 x4, .int .i64 x5, .int .i64 x6, .int .i64 x7, .int .i64 x8, .int .i64 x9], .agg #[.slice a1 j1 c1, .slice a2 j2 c2, .slice a3 j3 c3, .int .i64 nx, .int .i64 px, .int .i64 ta], .int .i64 4096] Z2 fun e w' => e = .returned (.int .i64 (kk : Int)) ∧ Below Z2.heap.size Z2 w') := ⟨_, hk2, by have := HCk4.out; rw [HCF.out] at this ⊢; exact this⟩
          clear hck hk2 hq2 HCk4 HCk hdr he hkn
          obtain ⟨kk, hk2, hck⟩ := HCk5.out
          have HCK := hid hck
          clear hck HCk5
          go_upto_region 45 with (first | ((with_reducible refine ld_armg HLD6.out ?_ ?_ ?_); (· rfl); (· rfl)) | ((with_reducible refine ld_armg HLD7.out ?_ ?_ ?_); (· rfl); (· rfl)) | (go_at_call 5; refine HCK.out.mono ?_; rintro x w6 ⟨rfl, hbk⟩; have HBK := hid hbk; clear hbk))
          obtain ⟨V5, V6, hs1, hs2, hl1, hl2, hb6, hbt, hbt5⟩ := two_res (L1 := [.int .i64 0, .int .i64 0, .int .i64 0, .int .i64 0, .int .i64 0, .int .i64 0, .int .i64 0, .int .i64 0, .int .i64 0, .int .i64 0]) (L2 := [.slice none 0 0, .slice none 0 0, .slice none 0 0, .int .i64 0, .int .i64 0, .int .i64 0]) (V := w6) (below_call HRB.out HBK.out) (HX0.out.later HBK.out) (HX1.out.later HBK.out) rfl rfl rfl rfl (cf_one cf0) (st_one sl0 sl0 sl0 0 0 0)
          have HS1 := hid hs1
          have HS2 := hid hs2
          have HF := hid hb6
          clear hs1 hs2 hb6 hbt hbt5
          go_wp2_with (first | ((with_reducible refine st_arm HS1.out ?_ ?_ ?_); (· rfl); (· rfl)) | ((with_reducible refine st_arm HS2.out ?_ ?_ ?_); (· rfl); (· rfl)))
          exact bodyPost_ret (v := .tuple #[cf0.v, stV sl0 sl0 sl0 0 0 0, .int .i64 21]) (by simp [results, Try.results10, asAddr, Act.put, hl1, hl2, cf0]) rfl ⟨HF.out, (fun e => by rw [HNo.out] at e; exact absurd e (by simp)), fun _ => rfl⟩
      · obtain ⟨k, hkn, hdr, hlk⟩ := HAt.out
        have hkne : ((k : Int) != (rn : Int)) = true := by
          have : k ≠ rn := fun ek => he (by rw [hdr, List.drop_eq_nil_of_le (by rw [HLn.out]; omega)])
          simp
          omega
        obtain ⟨y1, y1f⟩ := hlk
        subst hmg
        have HNo : Hid (dB L = false) := by unfold Hid; rw [HdB.out, decide_eq_false he]; simp
        clear hq2 hdr he hkn
        obtain ⟨V5, V6, hs1, hs2, hl1, hl2, hb6, hbt, hbt5⟩ := two_res (L1 := [.int .i64 0, .int .i64 0, .int .i64 0, .int .i64 0, .int .i64 0, .int .i64 0, .int .i64 0, .int .i64 0, .int .i64 0, .int .i64 0]) (L2 := [.slice none 0 0, .slice none 0 0, .slice none 0 0, .int .i64 0, .int .i64 0, .int .i64 0]) HRB.out HX0.out HX1.out rfl rfl rfl rfl (cf_one cf0) (st_one sl0 sl0 sl0 0 0 0)
        have HS1 := hid hs1
        have HS2 := hid hs2
        have HF := hid hb6
        clear hs1 hs2 hb6 hbt hbt5
        go_wp2_with (first | ((with_reducible refine st_arm HS1.out ?_ ?_ ?_); (· rfl); (· rfl)) | ((with_reducible refine st_arm HS2.out ?_ ?_ ?_); (· rfl); (· rfl)))
        exact bodyPost_ret (v := .tuple #[cf0.v, stV sl0 sl0 sl0 0 0 0, .int .i64 21]) (by simp [results, Try.results10, asAddr, Act.put, hl1, hl2, cf0]) rfl ⟨HF.out, (fun e => by rw [HNo.out] at e; exact absurd e (by simp)), fun _ => rfl⟩
    · have hbe := HCmp.out (strB mg) (strB mkB) (fun e => hmg (strB_inj HRd.out.2 (by decide) e))
      have HNo : Hid (dB L = false) := by unfold Hid; rw [HdB.out, decide_eq_false hmg]; simp
      clear hq2 hmg
      obtain ⟨V5, V6, hs1, hs2, hl1, hl2, hb6, hbt, hbt5⟩ := two_res (L1 := [.int .i64 0, .int .i64 0, .int .i64 0, .int .i64 0, .int .i64 0, .int .i64 0, .int .i64 0, .int .i64 0, .int .i64 0, .int .i64 0]) (L2 := [.slice none 0 0, .slice none 0 0, .slice none 0 0, .int .i64 0, .int .i64 0, .int .i64 0]) HRB.out HX0.out HX1.out rfl rfl rfl rfl (cf_one cf0) (st_one sl0 sl0 sl0 0 0 0)
      have HS1 := hid hs1
      have HS2 := hid hs2
      have HF := hid hb6
      clear hs1 hs2 hb6 hbt hbt5
      go_wp2_with (first | ((with_reducible refine st_arm HS1.out ?_ ?_ ?_); (· rfl); (· rfl)) | ((with_reducible refine st_arm HS2.out ?_ ?_ ?_); (· rfl); (· rfl)))
      exact bodyPost_ret (v := .tuple #[cf0.v, stV sl0 sl0 sl0 0 0 0, .int .i64 21]) (by simp [results, Try.results10, asAddr, Act.put, hl1, hl2, cf0]) rfl ⟨HF.out, (fun e => by rw [HNo.out] at e; exact absurd e (by simp)), fun _ => rfl⟩
end Go.Proofs.Ythfmmfphnimlnaa
