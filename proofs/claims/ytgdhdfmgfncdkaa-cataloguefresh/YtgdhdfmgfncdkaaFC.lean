import Derived.Test.YtgdhdfmgfncdkaaFB
namespace Go.Proofs.Ytgdhdfmgfncdkaa
open Go.RowKit Go.Shelf H
set_option linter.unusedVariables false

/-! ### CatalogueFresh -/
theorem cdrop_g {w : World} {A : Ad} {kn mo : Nat} {X : List Tk} {l : Fo} (h : Cat w A kn mo X l) (n : Int) :
    Calls Try.prog 14 #[.pointer (some ⟨A.g, 0, none⟩), .int .i64 n] w fun e w' => ∃ a c, e = .returned (.tuple #[.slice a (G true l n).length c, .int .i64 (if n ∈ nums l then 0 else 20)]) ∧ Ow w' w.heap.size 33 3 a (G true l n).length c (caps ((G true l n).map (fun k => (tk X k).1))) ∧ Cat w' A kn mo (zer X (G true l n)) (cuts l (G true l n)) ∧ But A.Wr w w' := by
  have := cdrop_any h n
  unfold Dropped at this
  rw [dropS_eq] at this
  simp only at this
  rw [drop_if] at this
  exact this
theorem Cr.lit2 (w : World) (x y : Tok) : Cr (w.alloc (Obj.cells (encT x ++ encT y).toArray 35)) 5 (some ⟨w.heap.size, 0, none⟩) 2 2 (toks [x, y]) := by
  have h := Cr.lit w 35 (encT x ++ encT y) (fun u hu => by rcases List.mem_append.1 hu with h | h; exact encT_one x u h; exact encT_one y u h)
  have e : toks [x, y] = encT x ++ encT y := by simp [toks]
  rw [e]
  exact ⟨rfl, fun h => (by cases h), h.cells, h.one⟩
def mT (r : Int) : Tok := ((0, 0, 0), r, 0)
/-- A list whose first i elements are marked. -/
def mkL (r : Int) (O : List Tok) (i : Nat) : List Tok := List.replicate i (mT r) ++ O.drop i
theorem mkL_len (r : Int) (O : List Tok) (i : Nat) (h : i ≤ O.length) : (mkL r O i).length = O.length := by unfold mkL; simp; omega
theorem mkL_step (r : Int) (O : List Tok) (i : Nat) (h : i < O.length) : (mkL r O i).set i (mT r) = mkL r O (i + 1) := by
  unfold mkL
  rw [List.set_append_right _ _ (by simp)]
  simp only [List.length_replicate, Nat.sub_self]
  rw [List.drop_eq_getElem_cons h, List.set_cons_zero, List.replicate_succ', List.append_assoc]
  rfl
theorem mkL_end (r : Int) (O : List Tok) : mkL r O O.length = List.replicate O.length (mT r) := by unfold mkL; simp
theorem toks_append (K M : List Tok) : toks (K ++ M) = toks K ++ toks M := by simp [toks]
/-- Both lists of Of, marked up to i. -/
structure Mp (w : World) (s3 s4 : Nat) (a b : Option Addr) (ca cb n : Nat) (O : List Tok) (i : Nat) : Prop where
  a : Ow w s3 35 5 a n ca (toks (mkL (-1) O i))
  b : Ow w s4 35 5 b n cb (toks (mkL (-2) O i))
def Sab (a b : Option Addr) (j : Nat) : Prop := Blk a j ∨ Blk b j
theorem Mp.step {w : World} {s3 s4 ga gb ca cb n : Nat} {O : List Tok} {i : Nat} (h : Mp w s3 s4 (some ⟨ga, 0, none⟩) (some ⟨gb, 0, none⟩) ca cb n O i) (hi : i < O.length) (hne : ga ≠ gb) :
    Mp (set5o (set5o w ga (i * 5) (mT (-1))) gb (i * 5) (mT (-2))) s3 s4 (some ⟨ga, 0, none⟩) (some ⟨gb, 0, none⟩) ca cb n O (i + 1) ∧ But (Sab (some ⟨ga, 0, none⟩) (some ⟨gb, 0, none⟩)) w (set5o (set5o w ga (i * 5) (mT (-1))) gb (i * 5) (mT (-2))) := by
  have h1 : But (· = ga) w (set5o w ga (i * 5) (mT (-1))) := set5o_but (S := (· = ga)) (But.refl _ _) rfl _ _
  have h2 : But (· = gb) (set5o w ga (i * 5) (mT (-1))) (set5o (set5o w ga (i * 5) (mT (-1))) gb (i * 5) (mT (-2))) := set5o_but (S := (· = gb)) (But.refl _ _) rfl _ _
  refine ⟨⟨?_, ?_⟩, (h1.mono (fun j e => .inl ⟨_, rfl, e.symm⟩)).trans (h2.mono (fun j e => .inr ⟨_, rfl, e.symm⟩))⟩
  · rw [← mkL_step _ _ _ hi]
    exact (h.a.setT i _).but h2 (fun j hj e => by obtain ⟨y, ey, rfl⟩ := hj; cases ey; exact hne e)
  · rw [← mkL_step _ _ _ hi]
    exact (h.b.but h1 (fun j hj e => by obtain ⟨y, ey, rfl⟩ := hj; cases ey; exact hne e.symm)).setT i _
def Fr1 (w0 : World) (s3 s4 : Nat) (a b : Option Addr) (ca cb n : Nat) (O : List Tok) (t : Value) (w : World) : Prop :=
  ∃ i : Nat, i ≤ n ∧ t = .int .i64 (i : Int) ∧ Mp w s3 s4 a b ca cb n O i ∧ But (Sab a b) w0 w
def Fr2 (w0 : World) (n : Nat) (t : Value) (w : World) : Prop := ∃ i : Nat, i ≤ n + 2 ∧ t = .int .i64 (i : Int) ∧ w = w0
def Fr3 (w0 : World) (n : Nat) (t : Value) (w : World) : Prop := ∃ i : Nat, i ≤ n ∧ t = .int .i64 (i : Int) ∧ Below w0.heap.size w0 w
/-- Behind both lengthenings. -/
structure Lg (w11 w13 : World) (a b m o : Option Addr) (cm co n : Nat) : Prop where
  ra : Rv w13 a (toks (List.replicate n (mT (-1))))
  rb : Rv w13 b (toks (List.replicate n (mT (-2))))
  rm : Rt w13 m (n + 2) (List.replicate (n + 2) (mT (-1)))
  ro : Rt w13 o (n + 2) (List.replicate (n + 2) (mT (-2)))
  bu : But (Sab a b) w11 w13
theorem rep2 (n : Nat) (r : Int) : toks (List.replicate n (mT r)) ++ toks [mT r, mT r] = toks (List.replicate (n + 2) (mT r)) := by
  rw [← toks_append]
  congr 1
  rw [show n + 2 = (n + 1) + 1 from rfl, List.replicate_succ', List.replicate_succ', List.append_assoc]
  rfl
theorem lengthen {w11 : World} {s3 s4 : Nat} {a b : Option Addr} {ca cb n : Nat} {O : List Tok} (hO : O.length = n) (hn : n ≤ 256) (h : Mp w11 s3 s4 a b ca cb n O n) (hs3 : s3 ≤ w11.heap.size) (hs4 : s4 ≤ w11.heap.size) (hab : ∀ j, Blk a j → ¬ Blk b j) :
    ∃ m cm w12, (Builtin.append_ #[27, 27] 27 #[.slice a n ca, .slice (some ⟨w11.heap.size, 0, none⟩) 2 2]).run Try.prog (w11.alloc (Obj.cells #[.int .i64 0, .int .u64 0, .int .u64 0, .int .i64 (-1), .int .i64 0, .int .i64 0, .int .u64 0, .int .u64 0, .int .i64 (-1), .int .i64 0] 35)) = .ok (.slice m (n + 2) cm) w12 ∧
    ∃ o co w13, (Builtin.append_ #[27, 27] 27 #[.slice b n cb, .slice (some ⟨w12.heap.size, 0, none⟩) 2 2]).run Try.prog (w12.alloc (Obj.cells #[.int .i64 0, .int .u64 0, .int .u64 0, .int .i64 (-2), .int .i64 0, .int .i64 0, .int .u64 0, .int .u64 0, .int .i64 (-2), .int .i64 0] 35)) = .ok (.slice o (n + 2) co) w13 ∧ Lg w11 w13 a b m o cm co n := by
  obtain ⟨h1, h2⟩ := h
  rw [← hO, mkL_end] at h1 h2
  rw [hO] at h1 h2
  have hl1 := below1 w11 (Obj.cells (encT (mT (-1)) ++ encT (mT (-1))).toArray 35)
  obtain ⟨m, cm, w12, hr1, hz1⟩ := Lz.app 27 35 _ 5 40 Try.underlying27 info35 rfl (by omega) (by omega) (Lz.start h1) hl1 (Cr.lit2 w11 (mT (-1)) (mT (-1))) (by omega) hs3 (by omega)
  rw [rep2] at hz1
  have hb12 := h2.but hz1.gr.but (fun j hj hj2 => hab j hj2 hj)
  have hsz := hz1.gr.but.size
  have hl2 := below1 w12 (Obj.cells (encT (mT (-2)) ++ encT (mT (-2))).toArray 35)
  obtain ⟨o, co, w13, hr2, hz2⟩ := Lz.app 27 35 _ 5 40 Try.underlying27 info35 rfl (by omega) (by omega) (Lz.start hb12) hl2 (Cr.lit2 w12 (mT (-2)) (mT (-2))) (by omega) (Nat.le_trans hs4 hsz) (by omega)
  rw [rep2] at hz2
  refine ⟨m, cm, w12, hr1, o, co, w13, hr2, ⟨hz1.rv.but hz2.gr.but hab, hz2.rv, ((hz1.ow.but hz2.gr.but (fun j hj hj2 => ?_)).rt (by simp)), hz2.ow.rt (by simp), (hz1.gr.but.mono (fun j hj => .inl hj)).trans (hz2.gr.but.mono (fun j hj => .inr hj))⟩⟩
  rcases hz1.gr.on j hj with h3 | h3
  · exact hab j h3 hj2
  · have := (h2.blk j hj2).2; omega
/-- What Drop hands out is not there any more. -/
structure Gone (mo : Nat) (X : List Tk) (l : Fo) (X' : List Tk) (l' : Fo) (K : List Cp) : Prop where
  no : ∀ c ∈ K, hasC X' l' c = false ∧ c.2.1 < B64 ∧ c.2.2 < B64
  len : l'.length + K.length = l.length
  small : l.length ≤ mo
theorem gone_of {mo : Nat} {X : List Tk} {l : Fo} (h : Inv mo X l) (n : Int) : Gone mo X l (zer X (G true l n)) (cuts l (G true l n)) ((G true l n).map (fun k => (tk X k).1)) := by
  refine ⟨fun c hc => ?_, ?_, h.ok.len⟩
  · obtain ⟨k, hk, rfl⟩ := List.mem_map.1 hc
    exact ⟨hasC_cut h hk, h.wide k (G_nums h.ok hk)⟩
  · rw [List.length_map]
    exact cuts_len h.ok (G_nodup h.ok true n) (fun x hx => G_nums h.ok hx)
end Go.Proofs.Ytgdhdfmgfncdkaa
