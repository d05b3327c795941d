import Derived.Test.YtcagghfkomodlaaR4
import Derived.Test.YtcagghfkomodlaaB7
namespace Go.Proofs.Ytcagghfkomodlaa
open Go.RowKit
set_option linter.unusedVariables false
set_option linter.unusedSimpArgs false

/-- Two that share nothing. -/
def Dj (g : Nat) (pa : Option Addr) (r : Nat) (pb : Option Addr) : Prop := ∀ k, (k = g ∨ Blk pa k) → ¬ (k = r ∨ Blk pb k)
theorem Dj.symm {g r : Nat} {pa pb : Option Addr} (h : Dj g pa r pb) : Dj r pb g pa := fun k h1 h2 => h k h2 h1
theorem Dm.blk {w : World} {base g : Nat} {m : Int} {pa : Option Addr} {cap : Nat} {K : List Cp} (h : Dm w base g m pa cap K) : ∀ k, (k = g ∨ Blk pa k) → base ≤ k ∧ k < w.heap.size := fun k hk => by
  rcases hk with e | e
  · have := h.lo; have := h.lt; omega
  · exact h.own.blk k e
theorem Dj.left {w w' : World} {base g r : Nat} {m : Int} {pa pa' pb : Option Addr} {cap : Nat} {K : List Cp} (h : Dj g pa r pb) (hr : Wr w w' g pa pa') (ho : Dm w base r m pb cap K) : Dj g pa' r pb := fun k h1 h2 => by
  rcases h1 with e | e
  · exact h k (.inl e) h2
  · rcases hr.on k e with e2 | e2
    · exact h k (.inr e2) h2
    · have := (ho.blk k h2).2; omega
theorem Dm.keep {w w' : World} {base g r : Nat} {m : Int} {pa pa' pb : Option Addr} {cap : Nat} {K : List Cp} (ho : Dm w base r m pb cap K) (h : Dj g pa r pb) (hr : Wr w w' g pa pa') : Dm w' base r m pb cap K :=
  ho.but hr.but (fun e => h r e (.inl rfl)) (fun k hk e => h k e (.inr hk))
/-- Both. -/
structure Duo (w : World) (base g r : Nat) (m : Int) (pa : Option Addr) (ca : Nat) (pb : Option Addr) (cb : Nat) (K : List Cp) : Prop where
  p : Dm w base g m pa ca K
  q : Dm w base r m pb cb K
  ap : Dj g pa r pb
  le : (K.length : Int) ≤ m
  m32 : m ≤ 32
variable {w w' : World} {base g r : Nat} {m : Int} {pa : Option Addr} {ca : Nat} {pb : Option Addr} {cb : Nat} {K : List Cp}
theorem Duo.later (h : Duo w base g r m pa ca pb cb K) (hb : Below w.heap.size w w') : Duo w' base g r m pa ca pb cb K := ⟨h.p.later hb, h.q.later hb, h.ap, h.le, h.m32⟩
theorem Duo.kl (h : Duo w base g r m pa ca pb cb K) : K.length ≤ 32 := by have := h.le; have := h.m32; omega
/-- What calls of both may write. -/
def Two (g : Nat) (pa : Option Addr) (r : Nat) (pb : Option Addr) (k : Nat) : Prop := (k = g ∨ Blk pa k) ∨ (k = r ∨ Blk pb k)
theorem Duo.blk (h : Duo w base g r m pa ca pb cb K) : ∀ k, Two g pa r pb k → base ≤ k ∧ k < w.heap.size := fun k hk => by
  rcases hk with e | e
  · exact h.p.blk k e
  · exact h.q.blk k e
theorem Duo.but {S : Nat → Prop} (h : Duo w base g r m pa ca pb cb K) (hb : But S w w') (hn : ∀ k, Two g pa r pb k → ¬ S k) : Duo w' base g r m pa ca pb cb K :=
  ⟨h.p.but hb (hn g (.inl (.inl rfl))) (fun k hk => hn k (.inl (.inr hk))), h.q.but hb (hn r (.inr (.inl rfl))) (fun k hk => hn k (.inr (.inr hk))), h.ap, h.le, h.m32⟩
/-- Where both went. -/
structure Mv (w w' : World) (g : Nat) (pa : Option Addr) (r : Nat) (pb : Option Addr) (pa' pb' : Option Addr) : Prop where
  but : But (Two g pa r pb) w w'
  on : ∀ k, Two g pa' r pb' k → Two g pa r pb k ∨ w.heap.size ≤ k
theorem Mv.refl (hb : Below w.heap.size w w') : Mv w w' g pa r pb pa pb := ⟨But.of hb, fun k hk => .inl hk⟩
theorem Mv.pre {W : World} {pa' pb' : Option Addr} (hb : Below w.heap.size w W) (h : Mv W w' g pa r pb pa' pb') : Mv w w' g pa r pb pa' pb' :=
  ⟨(But.of hb).trans h.but, fun k hk => by
    rcases h.on k hk with e | e
    · exact .inl e
    · exact .inr (Nat.le_trans hb.size e)⟩
theorem Mv.post {W : World} {pa' pb' : Option Addr} (h : Mv w W g pa r pb pa' pb') (hb : Below W.heap.size W w') : Mv w w' g pa r pb pa' pb' := ⟨h.but.call hb, h.on⟩
/-- Behind the program's call: the document's list is as it was. -/
theorem Duo.one {pa' : Option Addr} {ca' : Nat} {K' : List Cp} (h : Duo w base g r m pa ca pb cb K) (ho : Dm w' base g m pa' ca' K') (hr : Wr w w' g pa pa') : Dm w' base r m pb cb K ∧ Dj g pa' r pb ∧ Mv w w' g pa r pb pa' pb :=
  ⟨h.q.keep h.ap hr, h.ap.left hr h.q, hr.but.mono (fun k e => .inl e), fun k hk => by
    rcases hk with (e | e) | e
    · exact .inl (.inl (.inl e))
    · rcases hr.on k e with e | e
      · exact .inl (.inl (.inr e))
      · exact .inr e
    · exact .inl (.inr e)⟩
/-- Behind the document's. -/
theorem Duo.two {w0 U : World} {pa0 pb0 : Option Addr} {pa' : Option Addr} {ca' : Nat} {K' : List Cp} {pb' : Option Addr} {cb' : Nat} (ho : Dm w base g m pa' ca' K') (hq : Dm w base r m pb0 cb K) (hd : Dj g pa' r pb0) (hm : Mv w0 w g pa0 r pb0 pa' pb0) (hU : Below w.heap.size w U)
    (ho2 : Dm w' base r m pb' cb' K') (hr : Wr U w' r pb0 pb') (hl : (K'.length : Int) ≤ m) (h32 : m ≤ 32) : Duo w' base g r m pa' ca' pb' cb' K' ∧ Mv w0 w' g pa0 r pb0 pa' pb' := by
  have hw0 := hm.but.size
  have hwU := hU.size
  refine ⟨⟨(ho.later hU).keep hd.symm hr, ho2, (hd.symm.left hr (ho.later hU)).symm, hl, h32⟩, ?_, fun k hk => ?_⟩
  · refine (hm.but.call hU).comp hr.but (fun k e => .inl (.inr e))
  · rcases hk with e | e | e
    · exact hm.on k (.inl e)
    · exact .inl (.inr (.inl e))
    · rcases hr.on k e with e | e
      · exact .inl (.inr (.inr e))
      · exact .inr (by omega)
/-- What is asked, as it lies in its box; and the pair. -/
structure Sx (w : World) (bx bs g r : Nat) (sec : Bool) (kd : Int) (c : Cp) (n : Int) (la : Option Addr) (ln lc : Nat) : Prop where
  x0 : w.cell? ⟨bx, 0, none⟩ = some (.pointer (some ⟨g, 0, none⟩))
  x1 : w.cell? ⟨bx, 1, none⟩ = some (.pointer (some ⟨r, 0, none⟩))
  s1 : w.cell? ⟨bs, 1, none⟩ = some (.int .i64 kd)
  s2 : w.cell? ⟨bs, 2, none⟩ = some (.int .i64 c.1)
  s3 : w.cell? ⟨bs, 3, none⟩ = some (.int .u64 (c.2.1 : Int))
  s4 : w.cell? ⟨bs, 4, none⟩ = some (.int .u64 (c.2.2 : Int))
  s5 : w.cell? ⟨bs, 5, none⟩ = some (.int .i64 n)
  s6 : w.cell? ⟨bs, 6, none⟩ = some (.slice la ln lc)
theorem Sx.but {S : Nat → Prop} {bx bs : Nat} {sec : Bool} {kd : Int} {c : Cp} {n : Int} {la : Option Addr} {ln lc : Nat} (h : Sx w bx bs g r sec kd c n la ln lc) (hb : But S w w') (h1 : ¬ S bx) (h2 : ¬ S bs) : Sx w' bx bs g r sec kd c n la ln lc :=
  ⟨cell_but hb h.x0 h1, cell_but hb h.x1 h1, cell_but hb h.s1 h2, cell_but hb h.s2 h2, cell_but hb h.s3 h2, cell_but hb h.s4 h2, cell_but hb h.s5 h2, cell_but hb h.s6 h2⟩
theorem Sx.later {bx bs : Nat} {sec : Bool} {kd : Int} {c : Cp} {n : Int} {la : Option Addr} {ln lc : Nat} (h : Sx w bx bs g r sec kd c n la ln lc) (hb : Below w.heap.size w w') : Sx w' bx bs g r sec kd c n la ln lc := h.but (S := fun _ => False) (But.of hb) (fun h => h) (fun h => h)
abbrev sxW (w : World) (g r : Nat) (sec : Bool) (kd : Int) (c : Cp) (n : Int) (la : Option Addr) (ln lc : Nat) : World :=
  (w.alloc (Obj.cells #[.pointer (some ⟨g, 0, none⟩), .pointer (some ⟨r, 0, none⟩)] 52)).alloc (Obj.cells #[.bool sec, .int .i64 kd, .int .i64 c.1, .int .u64 (c.2.1 : Int), .int .u64 (c.2.2 : Int), .int .i64 n, .slice la ln lc] 54)
theorem sx_new (w : World) (g r : Nat) (sec : Bool) (kd : Int) (c : Cp) (n : Int) (la : Option Addr) (ln lc : Nat) : Sx (sxW w g r sec kd c n la ln lc) w.heap.size (w.heap.size + 1) g r sec kd c n la ln lc :=
  ⟨by simp [go_sem], by simp [go_sem], by simp [go_sem], by simp [go_sem], by simp [go_sem], by simp [go_sem], by simp [go_sem], by simp [go_sem]⟩
/-- A step's end. -/
def Did (w : World) (base g r : Nat) (m : Int) (pa pb : Option Addr) (e : Ending) (w' : World) : Prop :=
  ∃ pa' ca' pb' cb' K', e = .returned (.bool true) ∧ Duo w' base g r m pa' ca' pb' cb' K' ∧ Mv w w' g pa r pb pa' pb'
end Go.Proofs.Ytcagghfkomodlaa
