/- Contracts of package mat: Sub, Same (by slices.EqualFunc). -/
import Derived.Test.YtkikoniihmieiaaMatRight
namespace Go.Proofs.Ytkikoniihmieiaa
open Go.RowKit
set_option linter.unusedVariables false

def allF (f : List Nat → List Nat → Bool) (xss yss : List (List Nat)) : Bool := (List.range xss.length).all fun i => f (xss.getD i []) (yss.getD i [])
theorem allF_no {f : List Nat → List Nat → Bool} {xss yss : List (List Nat)} {k : Nat} {xs ys : List Nat} (hx : xss[k]? = some xs) (hy : yss[k]? = some ys) (h : f xs ys = false) : allF f xss yss = false := by
  unfold allF
  refine List.all_eq_false.2 ⟨k, List.mem_range.2 (List.getElem?_eq_some_iff.1 hx).1, ?_⟩
  rw [getD_at hx, getD_at hy, h]; simp
theorem allF_yes {f : List Nat → List Nat → Bool} {xss yss : List (List Nat)} (hl : xss.length = yss.length) (h : ∀ (k : Nat) (xs ys : List Nat), k < xss.length → xss[k]? = some xs → yss[k]? = some ys → f xs ys = true) : allF f xss yss = true := by
  unfold allF
  rw [List.all_eq_true]
  intro k hk
  have hk' := List.mem_range.1 hk
  have hx := List.getElem?_eq_getElem hk'
  have hy := List.getElem?_eq_getElem (l := yss) (i := k) (by omega)
  rw [getD_at hx, getD_at hy]
  exact h k _ _ hk' hx hy
theorem allF_sub (xss yss : List (List Nat)) : allF subR xss yss = subM xss yss := rfl
theorem allF_same {xss yss : List (List Nat)} (hl : xss.length = yss.length) : allF sameR xss yss = sameM xss yss := by
  rw [Bool.eq_iff_iff]
  unfold sameM
  rw [beq_iff_eq]
  constructor
  · intro h
    unfold allF at h
    rw [List.all_eq_true] at h
    apply List.ext_getElem hl
    intro i h1 h2
    have := h i (List.mem_range.2 h1)
    rw [getD_at (List.getElem?_eq_getElem h1), getD_at (List.getElem?_eq_getElem h2)] at this
    unfold sameR at this
    simpa using this
  · intro h
    subst h
    exact allF_yes rfl (fun k xs ys _ hx hy => by rw [hx] at hy; injection hy with hy; subst hy; exact sameR_refl xs)

set_option maxRecDepth 100000 in
set_option maxHeartbeats 1000000 in
theorem equal_rows_Sub (f : List Nat → List Nat → Bool) (hF : ∀ (A B : Option Addr) (n m c d : Nat) (xs ys : List Nat) (W : World), Row W A n xs → Row W B m ys → n ≤ 1073741824 → m ≤ 1073741824 → Calls Try.prog 63 #[.slice A n c, .slice B m d] W fun e w' => e = .returned (.bool (f xs ys)) ∧ W = w')
    (A B : Option Addr) (n c d : Nat) (xss yss : List (List Nat)) (w : World) (hr : RowsAt w A n xss) (hs : RowsAt w B n yss) (hn : n ≤ 1073741824) (hl : ∀ (i : Nat) (xs : List Nat), xss[i]? = some xs → xs.length ≤ 1073741824) (hl2 : ∀ (i : Nat) (xs : List Nat), yss[i]? = some xs → xs.length ≤ 1073741824) :
    Calls Try.prog 62 #[.slice A n c, .slice B n d, .func (Fn.func 63) #[] #[]] w fun e w' => e = .returned (.bool (allF f xss yss)) ∧ w = w' := by
  have hxl := hr.len
  have hyl := hs.len
  have hyes := Lib.hid (fun h => allF_yes (f := f) (xss := xss) (yss := yss) (by omega) h)
  have hne : ((n : Int) != (n : Int)) = false := by simp
  replace hF := Lib.hid hF
  replace hr := Lib.hid hr
  replace hs := Lib.hid hs
  replace hl := Lib.hid hl
  replace hl2 := Lib.hid hl2
  replace hxl := Lib.hid hxl
  replace hyl := Lib.hid hyl
  go_enter Try.func62, Try.ntmps62
  go_wp2_with fail
  go_loop [17] (fun i => ∃ k : Nat, k ≤ n ∧ i = .int .i64 k ∧ Hid (∀ (j : Nat) (xs ys : List Nat), j < k → xss[j]? = some xs → yss[j]? = some ys → f xs ys = true)) (fun i => n - (intOf i).toNat)
  case atStart => exact ⟨0, Nat.zero_le _, rfl, Lib.hid (fun j xs ys hj => absurd hj (by omega))⟩
  case round =>
    obtain ⟨k, hk, rfl, hall⟩ := hrel
    by_cases hlt : k < n
    · obtain ⟨b1, o1, A1, n1, c1, xs, rfl, hbl1, hx, hc1, hrx⟩ := hr.out.at_ hlt
      obtain ⟨b2, o2, B1, n2, c2, ys, rfl, hbl2, hy, hc2, hry⟩ := hs.out.at_ hlt
      have hn1 : n1 ≤ 1073741824 := by have := hrx.len; have := hl.out k xs hx; omega
      have hn2 : n2 ≤ 1073741824 := by have := hry.len; have := hl2.out k ys hy; omega
      have hC := Lib.hid (hF.out A1 B1 n1 n2 c1 c2 xs ys w hrx hry hn1 hn2)
      rcases Bool.eq_false_or_eq_true (f xs ys) with hf | hf
      · have hall' : Hid (∀ (j : Nat) (us vs : List Nat), j < k + 1 → xss[j]? = some us → yss[j]? = some vs → f us vs = true) := Lib.hid (fun j us vs hj hu hv => by
          rcases Nat.lt_succ_iff_lt_or_eq.1 hj with h | h
          · exact hall.out j us vs h hu hv
          · rw [h, hx] at hu
            rw [h, hy] at hv
            injection hu with hu
            injection hv with hv
            rw [← hu, ← hv]; exact hf)
        replace hf := Lib.hid hf
        clear hx hy hrx hry
        go_wp2_with fail
        refine hC.out.mono ?_; rintro e w' ⟨rfl, rfl⟩
        rw [hf.out]
        go_wp2
        go_round
        case rel => exact ⟨k + 1, by omega, by go_num, hall'⟩
        case measure => simp [intOf]; omega
      · have hno := Lib.hid (allF_no hx hy hf)
        replace hf := Lib.hid hf
        clear hx hy hrx hry
        go_wp2_with fail
        refine hC.out.mono ?_; rintro e w' ⟨rfl, rfl⟩
        rw [hf.out]
        go_wp2
        go_ret
        rw [hno.out]; exact ⟨rfl, rfl⟩
    · have hres := Lib.hid (hyes.out (fun j xs ys hj hx hy => hall.out j xs ys (by have := hxl.out; omega) hx hy))
      go_wp2
      go_ret
      rw [hres.out]; exact ⟨rfl, rfl⟩
set_option maxRecDepth 100000 in
set_option maxHeartbeats 1000000 in
theorem equal_rows_Same (f : List Nat → List Nat → Bool) (hF : ∀ (A B : Option Addr) (n m c d : Nat) (xs ys : List Nat) (W : World), Row W A n xs → Row W B m ys → n ≤ 1073741824 → m ≤ 1073741824 → Calls Try.prog 65 #[.slice A n c, .slice B m d] W fun e w' => e = .returned (.bool (f xs ys)) ∧ W = w')
    (A B : Option Addr) (n c d : Nat) (xss yss : List (List Nat)) (w : World) (hr : RowsAt w A n xss) (hs : RowsAt w B n yss) (hn : n ≤ 1073741824) (hl : ∀ (i : Nat) (xs : List Nat), xss[i]? = some xs → xs.length ≤ 1073741824) (hl2 : ∀ (i : Nat) (xs : List Nat), yss[i]? = some xs → xs.length ≤ 1073741824) :
    Calls Try.prog 62 #[.slice A n c, .slice B n d, .func (Fn.func 65) #[] #[]] w fun e w' => e = .returned (.bool (allF f xss yss)) ∧ w = w' := by
  have hxl := hr.len
  have hyl := hs.len
  have hyes := Lib.hid (fun h => allF_yes (f := f) (xss := xss) (yss := yss) (by omega) h)
  have hne : ((n : Int) != (n : Int)) = false := by simp
  replace hF := Lib.hid hF
  replace hr := Lib.hid hr
  replace hs := Lib.hid hs
  replace hl := Lib.hid hl
  replace hl2 := Lib.hid hl2
  replace hxl := Lib.hid hxl
  replace hyl := Lib.hid hyl
  go_enter Try.func62, Try.ntmps62
  go_wp2_with fail
  go_loop [17] (fun i => ∃ k : Nat, k ≤ n ∧ i = .int .i64 k ∧ Hid (∀ (j : Nat) (xs ys : List Nat), j < k → xss[j]? = some xs → yss[j]? = some ys → f xs ys = true)) (fun i => n - (intOf i).toNat)
  case atStart => exact ⟨0, Nat.zero_le _, rfl, Lib.hid (fun j xs ys hj => absurd hj (by omega))⟩
  case round =>
    obtain ⟨k, hk, rfl, hall⟩ := hrel
    by_cases hlt : k < n
    · obtain ⟨b1, o1, A1, n1, c1, xs, rfl, hbl1, hx, hc1, hrx⟩ := hr.out.at_ hlt
      obtain ⟨b2, o2, B1, n2, c2, ys, rfl, hbl2, hy, hc2, hry⟩ := hs.out.at_ hlt
      have hn1 : n1 ≤ 1073741824 := by have := hrx.len; have := hl.out k xs hx; omega
      have hn2 : n2 ≤ 1073741824 := by have := hry.len; have := hl2.out k ys hy; omega
      have hC := Lib.hid (hF.out A1 B1 n1 n2 c1 c2 xs ys w hrx hry hn1 hn2)
      rcases Bool.eq_false_or_eq_true (f xs ys) with hf | hf
      · have hall' : Hid (∀ (j : Nat) (us vs : List Nat), j < k + 1 → xss[j]? = some us → yss[j]? = some vs → f us vs = true) := Lib.hid (fun j us vs hj hu hv => by
          rcases Nat.lt_succ_iff_lt_or_eq.1 hj with h | h
          · exact hall.out j us vs h hu hv
          · rw [h, hx] at hu
            rw [h, hy] at hv
            injection hu with hu
            injection hv with hv
            rw [← hu, ← hv]; exact hf)
        replace hf := Lib.hid hf
        clear hx hy hrx hry
        go_wp2_with fail
        refine hC.out.mono ?_; rintro e w' ⟨rfl, rfl⟩
        rw [hf.out]
        go_wp2
        go_round
        case rel => exact ⟨k + 1, by omega, by go_num, hall'⟩
        case measure => simp [intOf]; omega
      · have hno := Lib.hid (allF_no hx hy hf)
        replace hf := Lib.hid hf
        clear hx hy hrx hry
        go_wp2_with fail
        refine hC.out.mono ?_; rintro e w' ⟨rfl, rfl⟩
        rw [hf.out]
        go_wp2
        go_ret
        rw [hno.out]; exact ⟨rfl, rfl⟩
    · have hres := Lib.hid (hyes.out (fun j xs ys hj hx hy => hall.out j xs ys (by have := hxl.out; omega) hx hy))
      go_wp2
      go_ret
      rw [hres.out]; exact ⟨rfl, rfl⟩

set_option maxHeartbeats 1000000 in
theorem mat_Sub (A B : Option Addr) (n c d : Nat) (xss yss : List (List Nat)) (w : World) (hr : RowsAt w A n xss) (hs : RowsAt w B n yss) (hn : n ≤ 1073741824) (hl : ∀ (i : Nat) (xs : List Nat), xss[i]? = some xs → xs.length ≤ 1073741824) (hl2 : ∀ (i : Nat) (xs : List Nat), yss[i]? = some xs → xs.length ≤ 1073741824) :
    Calls Try.prog 24 #[.agg #[.int .i64 (n : Int), .slice A n c], .agg #[.int .i64 (n : Int), .slice B n d]] w (RetB (subM xss yss) w) := by
  obtain ⟨W0, hW0⟩ : ∃ W0, W0 = ((w.alloc (.cells #[.int .i64 n, .slice A n c] 24)).alloc (.cells #[.int .i64 n, .slice B n d] 24)) := ⟨_, rfl⟩
  have ha : Below w.heap.size w W0 := by rw [hW0]; exact (((Below.refl _ _).alloc (Nat.le_refl _) _).alloc (by simp) _)
  have hBa : MatB W0 w.heap.size 24 n A n c := by rw [hW0]; exact ((MatB.new w _).below_ ((Below.refl _ _).alloc (Nat.le_refl _) _))
  have hBb : MatB W0 (w.heap.size + 1) 24 n B n d := by rw [hW0]; exact (MatB.new1 w _ _)
  have l0 := hBa.c0
  have l1 := hBa.c1
  have m0 := hBb.c0
  have m1 := hBb.c1
  have hne : ((n : Int) == (n : Int)) = true := by simp
  have he := Lib.hid (show allF subR xss yss = subM xss yss from allF_sub xss yss)
  have hC := Lib.hid (equal_rows_Sub subR (fun A B n m c d xs ys W h1 h2 h3 h4 => row_Sub A B n m c d xs ys W h1 h2 (by omega) (by omega)) A B n c d xss yss W0 (hr.below ha) (hs.below ha) hn hl hl2)
  replace ha := Lib.hid ha
  clear hr hs hl hl2 hBa hBb
  go_enter Try.func24, Try.ntmps24
  go_wp2_with fail
  rw [← hW0]
  clear hW0
  refine hC.out.mono ?_; rintro e w' ⟨rfl, rfl⟩
  go_wp2
  go_ret
  rw [he.out]; exact ⟨rfl, ha.out⟩
set_option maxHeartbeats 400000 in
theorem mat_Sub_no (N M : Int) (A B : Option Addr) (n m c d : Nat) (w : World) (h : N ≠ M) :
    Calls Try.prog 24 #[.agg #[.int .i64 N, .slice A n c], .agg #[.int .i64 M, .slice B m d]] w (RetB false w) := by
  have hne : (N == M) = false := by simpa using h
  have ha : Below w.heap.size w ((w.alloc (.cells #[.int .i64 N, .slice A n c] 24)).alloc (.cells #[.int .i64 M, .slice B m d] 24)) := (((Below.refl _ _).alloc (Nat.le_refl _) _).alloc (by simp) _)
  replace ha := Lib.hid ha
  clear h
  go_enter Try.func24, Try.ntmps24
  go_wp2
  go_ret
  exact ⟨rfl, ha.out⟩

set_option maxHeartbeats 1000000 in
theorem mat_Same (A B : Option Addr) (n c d : Nat) (xss yss : List (List Nat)) (w : World) (hr : RowsAt w A n xss) (hs : RowsAt w B n yss) (hn : n ≤ 1073741824) (hl : ∀ (i : Nat) (xs : List Nat), xss[i]? = some xs → xs.length ≤ 1073741824) (hl2 : ∀ (i : Nat) (xs : List Nat), yss[i]? = some xs → xs.length ≤ 1073741824) :
    Calls Try.prog 26 #[.agg #[.int .i64 (n : Int), .slice A n c], .agg #[.int .i64 (n : Int), .slice B n d]] w (RetB (sameM xss yss) w) := by
  obtain ⟨W0, hW0⟩ : ∃ W0, W0 = ((w.alloc (.cells #[.int .i64 n, .slice A n c] 24)).alloc (.cells #[.int .i64 n, .slice B n d] 24)) := ⟨_, rfl⟩
  have ha : Below w.heap.size w W0 := by rw [hW0]; exact (((Below.refl _ _).alloc (Nat.le_refl _) _).alloc (by simp) _)
  have hBa : MatB W0 w.heap.size 24 n A n c := by rw [hW0]; exact ((MatB.new w _).below_ ((Below.refl _ _).alloc (Nat.le_refl _) _))
  have hBb : MatB W0 (w.heap.size + 1) 24 n B n d := by rw [hW0]; exact (MatB.new1 w _ _)
  have l0 := hBa.c0
  have l1 := hBa.c1
  have m0 := hBb.c0
  have m1 := hBb.c1
  have hne : ((n : Int) == (n : Int)) = true := by simp
  have he := Lib.hid (show allF sameR xss yss = sameM xss yss from allF_same (by rw [hr.len, hs.len]))
  have hC := Lib.hid (equal_rows_Same sameR (fun A B n m c d xs ys W h1 h2 h3 h4 => row_Same A B n m c d xs ys W h1 h2 (by omega) (by omega)) A B n c d xss yss W0 (hr.below ha) (hs.below ha) hn hl hl2)
  replace ha := Lib.hid ha
  clear hr hs hl hl2 hBa hBb
  go_enter Try.func26, Try.ntmps26
  go_wp2_with fail
  rw [← hW0]
  clear hW0
  refine hC.out.mono ?_; rintro e w' ⟨rfl, rfl⟩
  go_wp2
  go_ret
  rw [he.out]; exact ⟨rfl, ha.out⟩
set_option maxHeartbeats 400000 in
theorem mat_Same_no (N M : Int) (A B : Option Addr) (n m c d : Nat) (w : World) (h : N ≠ M) :
    Calls Try.prog 26 #[.agg #[.int .i64 N, .slice A n c], .agg #[.int .i64 M, .slice B m d]] w (RetB false w) := by
  have hne : (N == M) = false := by simpa using h
  have ha : Below w.heap.size w ((w.alloc (.cells #[.int .i64 N, .slice A n c] 24)).alloc (.cells #[.int .i64 M, .slice B m d] 24)) := (((Below.refl _ _).alloc (Nat.le_refl _) _).alloc (by simp) _)
  replace ha := Lib.hid ha
  clear h
  go_enter Try.func26, Try.ntmps26
  go_wp2
  go_ret
  exact ⟨rfl, ha.out⟩

end Go.Proofs.Ytkikoniihmieiaa
