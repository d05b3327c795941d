import Derived.Test.YticgammbjcdobaaNQ
namespace Go.Proofs.Yticgammbjcdobaa
open Go.RowKit
set_option linter.unusedVariables false
set_option linter.unusedSimpArgs false
theorem stTn {w : World} {b o : Nat} {L : List Value} (h : w.there b o 6) (hl : L.length = 6) (h1 : ∀ v ∈ L, v.oneCell' = true) : (Instr.storeAt 77 (.pointer (some ⟨b, o, none⟩)) (.agg L.toArray)).run Try.prog w = .ok () (w.setCells b o L) :=
  run_storeAt_mid w b o 77 L.toArray (by simpa [hl] using h) (by rw [infoTn]; simp [hl]) (all_oneCell_toArray h1)
theorem lvTn {w : World} {b o : Nat} {L : List Value} (h : w.rangeAt b o L) (hl : L.length = 6) : (loadVar 77 ⟨b, o, none⟩).run Try.prog w = .ok (.agg L.toArray) w :=
  run_loadVar_mid w b o 77 L _ h Try.underlying77 rfl (by rw [infoTn, hl])
theorem Tn.one (t : Tn) : ∀ v ∈ t.L, v.oneCell' = true := by
  intro v hv
  simp only [List.mem_cons, List.not_mem_nil, or_false] at hv
  rcases hv with rfl | rfl | rfl | rfl | rfl | rfl <;> rfl
/-- What stands under an object and a password: a token, or none. -/
def gtT (G : List Im) (p : Int) (h l : Nat) (t : Tn) (ok : Bool) : Prop := Gt G p (wdV h l) (if ok then some t.v else none) ∧ (ok = false → t = tn0)
set_option maxRecDepth 100000 in
set_option maxHeartbeats 2000000 in
theorem lookW_any (b : Nat) (G : List Im) (p : Int) (hi lo : Nat) (t : Tn) (ok : Bool) (w : World) (h : Mm w 29 b G) (hp : I64 p) (h1 : U64 hi) (h2 : U64 lo) (hr : gtT G p hi lo t ok) :
    Calls Try.prog 32 #[.map (some b), .int .i64 p, wdV hi lo] w fun e w' => e = .returned (.tuple #[t.v, .bool ok]) ∧ Below w.heap.size w w' := by
  obtain ⟨W, hW⟩ : ∃ W, W = (w.alloc (Obj.cells #[.int .u64 (hi : Int), .int .u64 (lo : Int)] 29)).alloc (Obj.cells #[.int .u64 0, .int .u64 0, .int .u64 0, .int .u64 0, .int .i64 0, .int .i64 0] 77) := ⟨_, rfl⟩
  have hB : Below w.heap.size w W := by rw [hW]; exact below2 _ _ _
  have HLD : Hid ((Instr.loadAt 29 (.pointer (some ⟨w.heap.size, 0, none⟩))).run Try.prog W = .ok (wdV hi lo) W) := by rw [hW]; exact ldWd ((Bx.new w [.int .u64 (hi : Int), .int .u64 (lo : Int)] _).later (below1 _ _)).range rfl
  have HX1 : Hid (Bx W (w.heap.size + 1) tn0.L) := by rw [hW]; have := Bx.new (w.alloc (Obj.cells #[.int .u64 (hi : Int), .int .u64 (lo : Int)] 29)) tn0.L 77; simp at this; exact this
  obtain ⟨m, -, r1, r2⟩ := (h.later hB).look wkey Try.underlying60 Try.underlying82 zLive zTok hp (kword h1 h2) hr.1
  have e2 : (if ok then some t.v else none).getD tk0 = t.v ∧ (if ok then some t.v else none).isSome = ok := by
    cases ok with
    | true => exact ⟨rfl, rfl⟩
    | false => rw [hr.2 rfl]; exact ⟨rfl, rfl⟩
  rw [e2.1, e2.2] at r2
  obtain ⟨V, hV⟩ : ∃ V, V = W.alloc (Obj.cells #[.int .u64 (t.h : Int), .int .u64 (t.l : Int), .int .u64 (t.ph : Int), .int .u64 (t.pl : Int), .int .i64 t.r, .int .i64 t.s] 77) := ⟨_, rfl⟩
  have hBV : Below W.heap.size W V := by rw [hV]; exact below1 _ _
  have HLT : Hid ((Instr.loadAt 77 (.pointer (some ⟨W.heap.size, 0, none⟩))).run Try.prog V = .ok t.v V) := by rw [hV]; exact ldTn (Bx.new W t.L _).range rfl
  have hx1 := HX1.out.later hBV
  have HST := hid (stTn (L := t.L) (by have := hx1.there; exact this) rfl t.one)
  have hx3 := hx1.set (M := t.L) rfl
  have hlv := lvTn hx3.range rfl
  have HF : Hid (Below w.heap.size w (V.setCells (w.heap.size + 1) 0 t.L)) := But.below (below_call hB hBV) (setCells_but (S := (· = w.heap.size + 1)) rfl t.L 0 (But.refl _ _)) (fun k hk => by omega)
  have H1 := hid r1
  have H2 := hid r2
  have HW := hid hW
  have HV := hid hV
  obtain ⟨th, tl, tph, tpl, tr, ts⟩ := t
  simp only at H2 HLT HST HV hlv HF
  clear r1 r2 hW hB h hr hx1 hx3 hV hBV e2
  go_enter Try.func32, Try.ntmps32
  go_upto_region 1 with fail
  rw [← HW.out]
  go_upto_region 2 with (first | ((with_reducible refine look_arm H1.out ?_ ?_ ?_); (· rfl); (· rfl)) | ((with_reducible refine look_arm H2.out ?_ ?_ ?_); (· rfl); (· rfl)) | ((with_reducible refine ld_arm HLD.out ?_ ?_); (· rfl)))
  rw [← HV.out]
  go_wp2_with (first | ((with_reducible refine ld_arm HLT.out ?_ ?_); (· rfl)) | ((with_reducible refine st_arm HST.out ?_ ?_ ?_); (· rfl); (· rfl)))
  exact bodyPost_ret (v := .tuple #[Tn.v ⟨th, tl, tph, tpl, tr, ts⟩, .bool ok]) (by simp [results, Try.results32, asAddr, Act.put, hlv]) rfl ⟨rfl, HF.out⟩
end Go.Proofs.Yticgammbjcdobaa
