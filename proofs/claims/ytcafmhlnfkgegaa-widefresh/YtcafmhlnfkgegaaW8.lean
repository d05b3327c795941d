import Derived.Test.YtcafmhlnfkgegaaW7
namespace Go.Proofs.Ytcafmhlnfkgegaa
open Go.RowKit
def isHex (c : Nat) : Bool := decide (48 ≤ c ∧ c ≤ 57) || decide (97 ≤ c ∧ c ≤ 102)
def hexVal (l : List Nat) : Nat := l.foldl (fun n c => n * 16 + digitV c) 0
def parseOk (l : List Nat) : Bool := decide (1 ≤ l.length ∧ l.length ≤ 32) && (decide (¬ 1 < l.length) || !decide (l[0]? = some 48)) && l.all isHex
def natsOf (s : ByteArray) : List Nat := s.data.toList.map (·.toNat)

theorem natsOf_length (s : ByteArray) : (natsOf s).length = s.size := by simp [natsOf]
theorem natsOf_get (s : ByteArray) (k : Nat) (h : k < s.size) : (natsOf s)[k]? = some s[k].toNat := by
  unfold natsOf
  rw [List.getElem?_map, List.getElem?_eq_getElem (by simpa using h)]
  rfl
theorem natsOf_take (s : ByteArray) (k : Nat) (h : k < s.size) : (natsOf s).take (k + 1) = (natsOf s).take k ++ [s[k].toNat] := by
  have hl : k < (natsOf s).length := by rw [natsOf_length]; exact h
  rw [List.take_succ_eq_append_getElem hl]
  have := natsOf_get s k h
  rw [List.getElem?_eq_getElem hl] at this
  rw [Option.some.inj this]
theorem digitV_lt (c : Nat) : digitV c < 16 := by unfold digitV; split <;> (try split) <;> omega
theorem hexVal_snoc (l : List Nat) (c : Nat) : hexVal (l ++ [c]) = hexVal l * 16 + digitV c := by simp [hexVal]
theorem hexVal_lt (l : List Nat) : hexVal l < 16 ^ l.length := by
  have : ∀ l : List Nat, hexVal l.reverse < 16 ^ l.length := by
    intro l
    induction l with
    | nil => simp [hexVal]
    | cons c l ih =>
      rw [List.reverse_cons, hexVal_snoc, List.length_cons, Nat.pow_succ]
      have := digitV_lt c
      omega
  have h := this l.reverse
  rw [List.reverse_reverse, List.length_reverse] at h
  exact h
theorem kind_hex {c : Nat} (h : isHex c = true) : (kindI c == 0) = false := by
  unfold isHex at h
  simp only [Bool.or_eq_true, decide_eq_true_eq] at h
  unfold kindI
  split
  · rfl
  · split
    · rfl
    · split
      · rfl
      · omega
theorem kind_nohex {c : Nat} (h : isHex c = false) : (kindI c == 0) = true := by
  unfold isHex at h
  simp only [Bool.or_eq_false_iff, decide_eq_false_iff_not] at h
  unfold kindI
  rw [if_neg (by omega), if_neg (by omega), if_neg (by omega)]
  rfl
theorem kind_zero (c : Nat) : (kindI c == 1) = decide (c = 48) := by
  unfold kindI
  by_cases h : c = 48
  · rw [if_pos h, decide_eq_true h]; rfl
  · rw [if_neg h, decide_eq_false h]
    split
    · rfl
    · split <;> rfl

structure ParseAt (w w' : World) (N : Nat) : Prop where
  below : Below w.heap.size w w'
  res0 : Lies w' ⟨w.heap.size, 0, none⟩ (.int .u64 0)
  res1 : Lies w' ⟨w.heap.size, 1, none⟩ (.int .u64 0)
  word : ∃ c d : Int, IsV c d N ∧ Lies w' ⟨w.heap.size + 1, 0, none⟩ (.int .u64 c) ∧ Lies w' ⟨w.heap.size + 1, 1, none⟩ (.int .u64 d)
theorem ParseAt.start (w : World) : ParseAt w ((w.alloc (Obj.cells #[Value.int IntKind.u64 0, Value.int IntKind.u64 0] 24)).alloc (Obj.cells #[Value.int IntKind.u64 0, Value.int IntKind.u64 0] 24)) 0 := by
  refine ⟨below2 _ _ _, ?_, ?_, 0, 0, IsV.zero, ?_, ?_⟩
  · exact (lies_new (by simp)).alloc _
  · exact (lies_new (by simp)).alloc _
  · have := lies_new (w := w.alloc (Obj.cells #[Value.int IntKind.u64 0, Value.int IntKind.u64 0] 24)) (c := #[Value.int IntKind.u64 0, Value.int IntKind.u64 0]) (t := 24) (i := 0) (v := Value.int IntKind.u64 0) (by simp)
    simpa using this
  · have := lies_new (w := w.alloc (Obj.cells #[Value.int IntKind.u64 0, Value.int IntKind.u64 0] 24)) (c := #[Value.int IntKind.u64 0, Value.int IntKind.u64 0]) (t := 24) (i := 1) (v := Value.int IntKind.u64 0) (by simp)
    simpa using this
theorem ParseAt.next {w w' W w1 : World} {N M : Nat} {c d c0 d0 : Int} (h : ParseAt w w' N) (hW : Below w'.heap.size w' W) (h1 : Below W.heap.size W w1)
    (hw0 : Lies w1 ⟨w.heap.size + 1, 0, none⟩ (.int .u64 c0)) (hw1 : Lies w1 ⟨w.heap.size + 1, 1, none⟩ (.int .u64 d0)) (hv : IsV c d M) :
    ParseAt w ((w1.setCell ⟨w.heap.size + 1, 0, none⟩ (.int .u64 c)).setCell ⟨w.heap.size + 1, 1, none⟩ (.int .u64 d)) M := by
  refine ⟨?_, ?_, ?_, c, d, hv, ?_, ?_⟩
  · exact ((below_call (below_call h.below hW) h1).setCell (Nat.le_succ _) _).setCell (Nat.le_succ _) _
  · exact (((h.res0.later hW).later h1).keep (addr_ne (.inl (by omega)))).keep (addr_ne (.inl (by omega)))
  · exact (((h.res1.later hW).later h1).keep (addr_ne (.inl (by omega)))).keep (addr_ne (.inl (by omega)))
  · exact hw0.put.keep (addr_ne (.inr (by omega)))
  · exact (hw1.keep (addr_ne (.inr (by omega)))).put
def ParseRel (s : ByteArray) (w : World) (t : Value) (w' : World) : Prop :=
  ∃ k : Nat, k ≤ s.size ∧ t = .int .i64 (k : Int) ∧ ParseAt w w' (hexVal ((natsOf s).take k)) ∧ ((natsOf s).take k).all isHex = true
def parseV (l : List Nat) : Nat := if parseOk l then hexVal l else 0
def parseE (l : List Nat) : Int := if parseOk l then 0 else 22

set_option maxHeartbeats 400000 in
theorem parse_bounds (s : ByteArray) (w : World) (h : s.size < 1 ∨ 32 < s.size) :
    Calls Try.prog 14 #[.string s] w fun e w' => e = .returned (.tuple #[.agg #[.int .u64 0, .int .u64 0], .int .i64 22]) ∧ Below w.heap.size w w' := by
  rcases h with h | h
  · go_enter Try.func14, Try.ntmps14
    go_wp2
    exact bodyPost_ret (v := .tuple #[.agg #[.int .u64 0, .int .u64 0], .int .i64 22]) (by simp [results, Try.results14, go_sem]) rfl ⟨rfl, below1 _ _⟩
  · have h' : ¬ s.size < 1 := by omega
    go_enter Try.func14, Try.ntmps14
    go_wp2
    exact bodyPost_ret (v := .tuple #[.agg #[.int .u64 0, .int .u64 0], .int .i64 22]) (by simp [results, Try.results14, go_sem]) rfl ⟨rfl, below1 _ _⟩

set_option maxHeartbeats 400000 in
theorem parse_ahead (s : ByteArray) (w : World) (h1 : 1 < s.size) (h2 : s.size ≤ 32) (h3 : s[0].toNat = 48) :
    Calls Try.prog 14 #[.string s] w fun e w' => e = .returned (.tuple #[.agg #[.int .u64 0, .int .u64 0], .int .i64 22]) ∧ Below w.heap.size w w' := by
  have hk : (kindI s[0].toNat == 1) = true := by rw [kind_zero]; simpa using h3
  clear h3
  go_enter Try.func14, Try.ntmps14
  go_wp2_with (first | (go_at_call 29; refine (kindOf_any _ _).mono ?_; rintro e w1 ⟨rfl, rfl⟩))
  exact bodyPost_ret (v := .tuple #[.agg #[.int .u64 0, .int .u64 0], .int .i64 22]) (by simp [results, Try.results14, go_sem]) rfl ⟨rfl, below1 _ _⟩

def hexE (s : ByteArray) : Int := if (natsOf s).all isHex then 0 else 22
def hexV (s : ByteArray) : Nat := if (natsOf s).all isHex then hexVal (natsOf s) else 0
theorem hex_no {s : ByteArray} {k : Nat} (h : k < s.size) (hx : isHex s[k].toNat = false) : hexE s = 22 ∧ hexV s = 0 := by
  have ha : (natsOf s).all isHex = false := by
    rw [List.all_eq_false]
    refine ⟨s[k].toNat, List.mem_of_getElem? (natsOf_get s k h), by simpa using hx⟩
  unfold hexE hexV
  rw [ha]
  exact ⟨rfl, rfl⟩
theorem hex_yes {s : ByteArray} {k : Nat} (hk : k = s.size) (h : ((natsOf s).take k).all isHex = true) : hexE s = 0 ∧ hexV s = hexVal ((natsOf s).take k) := by
  have e : (natsOf s).take k = natsOf s := List.take_of_length_le (by rw [natsOf_length]; omega)
  rw [e] at h ⊢
  unfold hexE hexV
  rw [h]
  exact ⟨rfl, rfl⟩
theorem hex_next {s : ByteArray} {k : Nat} (hk : k < s.size) (h2 : s.size ≤ 32) : (hexVal ((natsOf s).take k) * 16 + digitV s[k].toNat) % (B64 * B64) = hexVal ((natsOf s).take (k + 1)) := by
  rw [natsOf_take s k hk, hexVal_snoc]
  apply Nat.mod_eq_of_lt
  rw [← hexVal_snoc, ← natsOf_take s k hk]
  calc hexVal ((natsOf s).take (k + 1)) < 16 ^ ((natsOf s).take (k + 1)).length := hexVal_lt _
    _ ≤ 16 ^ 32 := Nat.pow_le_pow_right (by omega) (by rw [List.length_take]; omega)
    _ = B64 * B64 := by decide
theorem all_next {s : ByteArray} {k : Nat} (hk : k < s.size) (h : ((natsOf s).take k).all isHex = true) (hx : isHex s[k].toNat = true) : ((natsOf s).take (k + 1)).all isHex = true := by
  rw [natsOf_take s k hk, List.all_append, h]
  simpa using hx

set_option maxHeartbeats 1000000 in
theorem parse_loop (s : ByteArray) (w : World) (h1 : 1 ≤ s.size) (h2 : s.size ≤ 32) (h3 : ¬ 1 < s.size) :
    Calls Try.prog 14 #[.string s] w fun e w' => ∃ c d : Int, e = .returned (.tuple #[.agg #[.int .u64 c, .int .u64 d], .int .i64 (hexE s)]) ∧ IsV c d (hexV s) ∧ Below w.heap.size w w' := by
  have H0 : Hid _ := ParseAt.start w
  have hd1 : decide ((s.size : Int) < 1) = false := by simp; omega
  have hd2 : decide (32 < (s.size : Int)) = false := by simp; omega
  have hd3 : decide (1 < (s.size : Int)) = false := by simp; omega
  go_enter Try.func14, Try.ntmps14
  go_wp2
  go_loopw [28] (ParseRel s w) (fun t _ => s.size - (intOf t).toNat)
  case atStart => exact ⟨0, by omega, rfl, H0.out, rfl⟩
  case round =>
    clear H0
    obtain ⟨k, hk, rfl, hP, hall⟩ := hrel
    obtain ⟨c, d, hcd, X0, X1⟩ := hP.word
    have HP : Hid (ParseAt w wr (hexVal ((natsOf s).take k))) := hP
    have HA : Hid (((natsOf s).take k).all isHex = true) := hall
    have R0 := hP.res0
    have R1 := hP.res1
    clear hP hall
    by_cases hlt : k < s.size
    · cases hx : isHex s[k].toNat with
      | true =>
        have kk := kind_hex hx
        have HX : Hid (isHex s[k].toNat = true) := hx
        clear hx
        obtain ⟨x0, f0⟩ := X0
        obtain ⟨x1, f1⟩ := X1
        have hb : s[k].toNat < 256 := s[k].toNat_lt
        go_wp2_with (first | (go_at_call 29; refine (kindOf_any _ _).mono ?_; rintro e w1 ⟨rfl, rfl⟩))
        go_region_with (first | (go_at_call 31; refine (valueOf_any _ _ hb).mono ?_; rintro e w2 ⟨rfl, rfl⟩) | (go_at_call 30; refine (withDigit_any _ _ _ _ _ hcd (digitV_lt _)).mono ?_; rintro e w3 ⟨c', d', rfl, hcd', hb3⟩; obtain ⟨y0, y0'⟩ := Lies.later hb3 (Lies.drew ⟨x0, f0⟩); obtain ⟨y1, y1'⟩ := Lies.later hb3 (Lies.drew ⟨x1, f1⟩)))
        all_goals
          go_wp2
          rw [hex_next hlt h2] at hcd'
          exact ⟨⟨k + 1, by omega, by go_num, HP.out.next (Below.refl _ _).drew hb3 ⟨y0, y0'⟩ ⟨y1, y1'⟩ hcd', all_next hlt HA.out HX.out⟩, by simp [intOf]; omega⟩
      | false =>
        have kk := kind_nohex hx
        obtain ⟨e1, e2⟩ := hex_no hlt hx
        have E1 : Hid (hexE s = 22) := e1
        have E2 : Hid (hexV s = 0) := e2
        clear hx e1 e2
        obtain ⟨x0, f0⟩ := R0
        obtain ⟨x1, f1⟩ := R1
        go_wp2_with (first | (go_at_call 29; refine (kindOf_any _ _).mono ?_; rintro e w1 ⟨rfl, rfl⟩))
        rw [E1.out, E2.out]
        exact bodyPost_ret (v := .tuple #[.agg #[.int .u64 0, .int .u64 0], .int .i64 22]) (by simp [results, Try.results14, go_sem, x0, x1]) rfl ⟨0, 0, rfl, IsV.zero, (HP.out.below.setCell (Nat.le_refl _) _).setCell (Nat.le_refl _) _⟩
    · obtain ⟨e1, e2⟩ := hex_yes (by omega) HA.out
      have E1 : Hid (hexE s = 0) := e1
      have E2 : Hid (hexV s = hexVal ((natsOf s).take k)) := e2
      clear e1 e2
      obtain ⟨x0, f0⟩ := R0
      obtain ⟨x1, f1⟩ := R1
      obtain ⟨y0, g0⟩ := X0
      obtain ⟨y1, g1⟩ := X1
      go_wp2
      rw [E1.out, E2.out]
      exact bodyPost_ret (v := .tuple #[.agg #[.int .u64 c, .int .u64 d], .int .i64 0]) (by simp [results, Try.results14, go_sem, x0, x1]) rfl ⟨c, d, rfl, hcd, (HP.out.below.setCell (Nat.le_refl _) _).setCell (Nat.le_refl _) _⟩
end Go.Proofs.Ytcafmhlnfkgegaa
