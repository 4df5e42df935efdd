/- The code's own contracts of layer 5 at db37a9ac: what is cut, runs of digits, what is written, sums; Get and Span. -/
import Derived.Test.YtpincmdogaaciaaNumRef
import Derived.Test.YtpincmdogaaciaaNumGet
import Derived.Test.YtpincmdogaaciaaNumPut
import Derived.Lib.Slices
import Derived.Lib.Strings
namespace Go.Proofs.Ytpincmdogaaciaa
open Go.RowKit
set_option linter.unusedVariables false

def RetS (l : List UInt8) (w : World) (e : Ending) (w' : World) : Prop := e = .returned (.string ⟨l.toArray⟩) ∧ Below w.heap.size w w'
def RetI (z : Int) (w : World) (e : Ending) (w' : World) : Prop := e = .returned (.int .i64 z) ∧ Below w.heap.size w w'

theorem head_byte (s : ByteArray) (h : 0 < s.size) : ∃ r, s.data.toList = s[0]'h :: r := by
  have hb := byte_at s 0 h
  cases hh : s.data.toList with
  | nil => rw [hh] at hb; simp at hb
  | cons y r => rw [hh] at hb; simp at hb; subst hb; exact ⟨r, rfl⟩
theorem extract_tail (s : ByteArray) (h : 0 < s.size) : (s.extract 1 s.size).data.toList = s.data.toList.tail := by
  rw [ByteArray.data_extract, Array.toList_extract, List.extract, List.drop_one]
  exact List.take_of_length_le (by rw [List.length_tail, size_list]; exact Nat.le_refl _)
theorem bytes_ext {s t : ByteArray} (h : s.data.toList = t.data.toList) : s = t := by
  obtain ⟨⟨a⟩⟩ := s; obtain ⟨⟨b⟩⟩ := t
  simp at h; subst h; rfl
theorem extract_one (s : ByteArray) (h : 0 < s.size) : (s.extract 0 1).data.toList = [s[0]'h] := by
  obtain ⟨r, hr⟩ := head_byte s h
  rw [ByteArray.data_extract, Array.toList_extract, List.extract, hr]; rfl

theorem fast_list (s : ByteArray) : s.toList = s.data.toList := Lib.toList_data s
theorem one_minus (b : UInt8) : ([b] == [45]) = decide (b.toNat = 45) := by
  by_cases h : b = 45
  · subst h; rfl
  · have : b.toNat ≠ 45 := fun h2 => h (UInt8.toNat_inj.1 h2)
    simp [h, this]
theorem cut_ext {s d : ByteArray} (h : d.data.toList = digL s.data.toList) : d = ⟨(digL s.data.toList).toArray⟩ := bytes_ext (by rw [h])

set_option maxRecDepth 100000 in
set_option maxHeartbeats 2000000 in
theorem cut_minus (s : ByteArray) (w : World) :
    Calls Try.prog 34 #[.string s, .string ⟨#[45]⟩] w fun e w' => e = .returned (.tuple #[.string ⟨(digL s.data.toList).toArray⟩, .bool (negL s.data.toList)]) ∧ w' = w := by
  have hz : (⟨#[45]⟩ : ByteArray).size = 1 := rfl
  by_cases h1 : 0 < s.size
  · have h1' : (1 : Int) ≤ (s.size : Int) := by omega
    obtain ⟨r, hr⟩ := head_byte s h1
    have h45 : (⟨#[45]⟩ : ByteArray).toList = [45] := by rw [fast_list]
    have hx : ((s.extract 0 1).toList == [45]) = negL s.data.toList := by
      rw [fast_list, extract_one s h1, hr]
      exact one_minus _
    cases hn : negL s.data.toList with
    | true =>
      rw [hn] at hx
      have hd : Hid (s.extract 1 s.size = ⟨(digL s.data.toList).toArray⟩) := Lib.hid (cut_ext (by rw [extract_tail s h1]; unfold digL; rw [hn, if_pos rfl]))
      clear hr h1
      go_enter Try.func34, Try.ntmps34
      go_wp2
      all_goals go_ret2
      all_goals exact ⟨by rw [hd.out]; rfl, rfl⟩
    | false =>
      rw [hn] at hx
      have hd : Hid (s = ⟨(digL s.data.toList).toArray⟩) := Lib.hid (cut_ext (by unfold digL; rw [hn, if_neg (by decide)]))
      clear hr h1
      go_enter Try.func34, Try.ntmps34
      go_wp2
      all_goals go_ret2
      all_goals exact ⟨by rw [← hd.out]; rfl, rfl⟩
  · have hl : s.data.toList = [] := List.eq_nil_of_length_eq_zero (by rw [size_list]; omega)
    have hd : Hid (s = ⟨(digL s.data.toList).toArray⟩) := Lib.hid (cut_ext (by rw [hl]; rfl))
    have hn : Hid (negL s.data.toList = false) := Lib.hid (by rw [hl]; rfl)
    have h1' : ¬ (1 : Int) ≤ (s.size : Int) := by omega
    clear hl h1
    go_enter Try.func34, Try.ntmps34
    go_wp2
    all_goals go_ret2
    all_goals exact ⟨by rw [← hd.out, hn.out]; rfl, rfl⟩
set_option maxRecDepth 100000 in
set_option maxHeartbeats 2000000 in
theorem num_run (s : ByteArray) (w : World) (hs : s.size ≤ 1073741824) :
    Calls Try.prog 35 #[.string s] w fun e w' => e = .returned (.int .i64 (digsN s.data.toList : Nat)) ∧ w' = w := by
  go_enter Try.func35, Try.ntmps35
  go_wp2_with fail
  go_loop [3] (fun t => ∃ q : Nat, t = .int .i64 q ∧ q ≤ s.size ∧ Hid (∀ j, j < q → ∃ c, s.data.toList[j]? = some c ∧ isD c = true)) (fun t => s.size - (intOf t).toNat)
  case atStart => exact ⟨0, rfl, by omega, Lib.hid (fun j hj => absurd hj (by omega))⟩
  case round =>
    obtain ⟨q, rfl, hq, hall⟩ := hrel
    by_cases hlt : (q : Int) < (s.size : Int)
    · have h : 0 ≤ (q : Int) ∧ (q : Int) < (s.size : Int) := ⟨by omega, hlt⟩
      have hlt' : q < s.size := by omega
      obtain ⟨c, hc⟩ : ∃ c : UInt8, s[q]'hlt' = c := ⟨_, rfl⟩
      have hcl : Hid (s.data.toList[q]? = some c) := Lib.hid (by rw [byte_at s q hlt', hc])
      by_cases h48 : 48 ≤ c.toNat
      · by_cases h57 : c.toNat ≤ 57
        · have e1 : (48 : Int) ≤ (c.toNat : Int) := by omega
          have e2 : (c.toNat : Int) < 58 := by omega
          have hall' : Hid (∀ j, j < q + 1 → ∃ c, s.data.toList[j]? = some c ∧ isD c = true) := Lib.hid (fun j hj => by
            rcases Nat.lt_succ_iff_lt_or_eq.1 hj with h1 | h1
            · exact hall.out j h1
            · subst h1
              exact ⟨c, hcl.out, by unfold isD; simp [h48, h57]⟩)
          clear hall h48 h57
          go_wp2_with fail
          go_round
          case rel => exact ⟨q + 1, by go_num, by omega, hall'⟩
          case measure => simp [intOf]; omega
        · have e1 : (48 : Int) ≤ (c.toNat : Int) := by omega
          have e2 : ¬ (c.toNat : Int) < 58 := by omega
          have hres : Hid (digsN s.data.toList = q) := Lib.hid (takeWhile_len _ q hall.out (fun d hd => by
            rw [hcl.out] at hd
            injection hd with hd
            subst hd
            unfold isD; simp; omega))
          clear hall h48 h57
          go_wp2_with fail
          go_ret
          exact ⟨by rw [hres.out]; rfl, rfl⟩
      · have e1 : ¬ (48 : Int) ≤ (c.toNat : Int) := by omega
        have hres : Hid (digsN s.data.toList = q) := Lib.hid (takeWhile_len _ q hall.out (fun d hd => by
          rw [hcl.out] at hd
          injection hd with hd
          subst hd
          unfold isD; simp; omega))
        clear hall h48
        go_wp2_with fail
        go_ret
        exact ⟨by rw [hres.out]; rfl, rfl⟩
    · have hres : Hid (digsN s.data.toList = q) := Lib.hid (takeWhile_len _ q hall.out (fun d hd => by
        have := (List.getElem?_eq_some_iff.1 hd).1
        rw [size_list] at this
        omega))
      clear hall
      go_wp2_with fail
      go_ret
      exact ⟨by rw [hres.out]; rfl, rfl⟩
/-- digits as they are written -/
def wroteL (d : List UInt8) (below : Bool) : Bool := !d.isEmpty && d.all isD && !(noughtL d && (decide (1 < d.length) || below))
set_option maxRecDepth 100000 in
set_option maxHeartbeats 2000000 in
theorem num_written (s : ByteArray) (below : Bool) (w : World) (hs : s.size ≤ 1073741824) :
    Calls Try.prog 36 #[.string s, .bool below] w fun e w' => e = .returned (.bool (wroteL s.data.toList below)) ∧ w' = w := by
  have cR := Lib.hid (num_run s w hs)
  by_cases hs0 : s.size = 0
  · have hl : s.data.toList = [] := List.eq_nil_of_length_eq_zero (by rw [size_list]; exact hs0)
    have hr : Hid (wroteL s.data.toList below = false) := Lib.hid (by rw [hl]; rfl)
    have hf : s.toList = [] := by rw [fast_list, hl]
    clear hl
    go_enter Try.func36, Try.ntmps36
    go_wp2_with fail
    go_ret
    exact ⟨by rw [hr.out]; rfl, rfl⟩
  have hs1 : 0 < s.size := by omega
  obtain ⟨b, hb⟩ : ∃ c : UInt8, s[0]'hs1 = c := ⟨_, rfl⟩
  obtain ⟨r, hbr⟩ := head_byte s hs1
  rw [hb] at hbr
  have hf : s.toList.isEmpty = false := by rw [fast_list, hbr]; simp
  have hsI : (0 : Int) < (s.size : Int) := by omega
  by_cases hall : s.data.toList.all isD = true
  · have hrun : digsN s.data.toList = s.size := by rw [(digsN_all _).2 hall, size_list]
    rw [hrun] at cR
    by_cases h48 : b.toNat = 48
    · have e48 : ((b.toNat : Int) != 48) = false := by simp; omega
      have hno : noughtL (b :: r) = true := by unfold noughtL; exact decide_eq_true h48
      by_cases h1 : s.size = 1
      · have hr0 : r = [] := by
          have := size_list s
          rw [hbr, List.length_cons, h1] at this
          exact List.eq_nil_of_length_eq_zero (by omega)
        have hb48 : b = 48 := UInt8.toNat_inj.1 (by rw [h48]; rfl)
        have hf2 : s.toList = [48] := by rw [fast_list, hbr, hr0, hb48]
        have hr : Hid (wroteL s.data.toList below = !below) := Lib.hid (by
          unfold wroteL
          rw [hall, hbr, hno, hr0]; simp)
        clear hbr hno hs0 h48 hb48 hr0 hall hrun
        replace hs1 := Lib.hid hs1
        go_enter Try.func36, Try.ntmps36
        go_wp2_with fail
        refine cR.out.mono ?_; rintro e w' ⟨rfl, rfl⟩
        go_wp2_with fail
        all_goals go_ret
        all_goals exact ⟨by rw [hr.out]; rfl, rfl⟩
      · have hf2 : (s.toList == [48]) = false := by
          rw [fast_list, beq_eq_false_iff_ne]
          intro h
          have := size_list s
          rw [h] at this
          simp at this; omega
        have hr : Hid (wroteL s.data.toList below = false) := Lib.hid (by
          unfold wroteL
          have hlen := size_list s
          have h2 : decide (1 < s.data.toList.length) = true := decide_eq_true (by rw [hlen]; omega)
          rw [h2, hall, hbr, hno]; simp)
        clear hbr hno hs0 h48 hall hrun
        replace hs1 := Lib.hid hs1
        go_enter Try.func36, Try.ntmps36
        go_wp2_with fail
        refine cR.out.mono ?_; rintro e w' ⟨rfl, rfl⟩
        go_wp2_with fail
        all_goals go_ret
        all_goals exact ⟨by rw [hr.out]; rfl, rfl⟩
    · have e48 : ((b.toNat : Int) != 48) = true := by simp; omega
      have hno : noughtL (b :: r) = false := by unfold noughtL; exact decide_eq_false h48
      have hr : Hid (wroteL s.data.toList below = true) := Lib.hid (by
        unfold wroteL
        rw [hall, hbr, hno]; simp)
      clear hbr hno hs0 h48 hall hrun
      replace hs1 := Lib.hid hs1
      go_enter Try.func36, Try.ntmps36
      go_wp2_with fail
      refine cR.out.mono ?_; rintro e w' ⟨rfl, rfl⟩
      go_wp2_with fail
      all_goals go_ret
      all_goals exact ⟨by rw [hr.out]; rfl, rfl⟩
  · have hne : (((digsN s.data.toList : Nat) : Int) != (s.size : Int)) = true := by
      have : digsN s.data.toList ≠ s.size := fun h => hall ((digsN_all _).1 (by rw [h, size_list]))
      simp; omega
    have hr : Hid (wroteL s.data.toList below = false) := Lib.hid (by
      unfold wroteL
      rw [Bool.eq_false_iff.2 hall]; simp)
    clear hbr hs0 hall
    replace hs1 := Lib.hid hs1
    go_enter Try.func36, Try.ntmps36
    go_wp2_with fail
    refine cR.out.mono ?_; rintro e w' ⟨rfl, rfl⟩
    go_wp2_with fail
    all_goals go_ret
    all_goals exact ⟨by rw [hr.out]; rfl, rfl⟩
/-- a sum that is no more than m -/
def sumV (l : List UInt8) (m : Nat) : Nat := if valN l ≤ m then valN l else 0
def sumB (l : List UInt8) (m : Nat) : Bool := decide (valN l ≤ m)
theorem sum_yes {l : List UInt8} {m : Nat} (h : valN l ≤ m) : sumV l m = valN l ∧ sumB l m = true := ⟨if_pos h, decide_eq_true h⟩
theorem sum_no {l : List UInt8} {m : Nat} (h : ¬ valN l ≤ m) : sumV l m = 0 ∧ sumB l m = false := ⟨if_neg h, decide_eq_false h⟩
set_option maxRecDepth 100000 in
set_option maxHeartbeats 2000000 in
theorem num_sum (d : ByteArray) (m : Nat) (w : World) (hs : d.size ≤ 1073741824) (hall : Hid (d.data.toList.all isD = true)) (m0 : 9 ≤ m) (m1 : m ≤ 9223372036854775808) :
    Calls Try.prog 37 #[.string d, .int .u64 (m : Int)] w fun e w' => e = .returned (.tuple #[.int .u64 (sumV d.data.toList m : Nat), .bool (sumB d.data.toList m)]) ∧ w' = w := by
  go_enter Try.func37, Try.ntmps37
  go_wp2_with fail
  go_loop [6, 11] (fun v t => ∃ k : Nat, k ≤ d.size ∧ t = .int .i64 k ∧ v = .int .u64 ((valN (d.data.toList.take k) : Nat) : Int) ∧ valN (d.data.toList.take k) ≤ m) (fun _ t => d.size - (intOf t).toNat)
  case atStart => exact ⟨0, Nat.zero_le _, rfl, by simp [valN], by simp [valN]⟩
  case round =>
    obtain ⟨k, hk, rfl, rfl, hle⟩ := hrel
    obtain ⟨x, hx⟩ : ∃ x, x = valN (d.data.toList.take k) := ⟨_, rfl⟩
    rw [← hx] at hle
    rw [← hx]
    by_cases hlt : k < d.size
    · have h : (0 : Int) ≤ (k : Int) ∧ (k : Int) < (d.size : Int) := ⟨by omega, by omega⟩
      obtain ⟨c, hc⟩ : ∃ c : UInt8, d[k]'hlt = c := ⟨_, rfl⟩
      have hcl : d.data.toList[k]? = some c := by
        rw [byte_at d k hlt]; exact congrArg some hc
      have hdig := List.all_eq_true.1 hall.out c (List.mem_of_getElem? hcl)
      unfold isD at hdig
      simp only [Bool.and_eq_true, decide_eq_true_eq] at hdig
      obtain ⟨g, hg⟩ : ∃ g, g = digV c := ⟨_, rfl⟩
      have hgc : c.toNat = g + 48 := by rw [hg]; unfold digV; omega
      have hg9 : g ≤ 9 := by omega
      have hnext := valN_take_succ hcl
      rw [← hx, ← hg] at hnext
      have hmono := valN_take_le d.data.toList (k + 1)
      rw [hnext] at hmono
      replace hnext := Lib.hid hnext
      replace hx := Lib.hid hx
      replace hg := Lib.hid hg
      replace hcl := Lib.hid hcl
      clear hdig
      have hcI : (c.toNat : Int) = (g : Int) + 48 := by omega
      have hgI : (g : Int) ≤ 9 := by omega
      clear hgc
      go_wp2_with fail
      · have hno := sum_no (l := d.data.toList) (m := m) (by omega)
        exact bodyPost_ret (v := .tuple #[.int .u64 0, .bool false]) (by simp [results, go_sem]) rfl ⟨by rw [hno.1, hno.2]; rfl, rfl⟩
      · exact ⟨⟨k + 1, by omega, by go_num, by rw [hnext.out]; go_num, by rw [hnext.out]; omega⟩, by simp [intOf]; omega⟩
    · have hke : k = d.size := by omega
      have hxv : Hid (x = valN d.data.toList) := Lib.hid (by rw [hx, hke, ← size_list, List.take_length])
      have hkn : ¬ (k : Int) < (d.size : Int) := by omega
      replace hx := Lib.hid hx
      clear hlt hke
      go_wp2_with fail
      have hyes := sum_yes (l := d.data.toList) (m := m) (by rw [← hxv.out]; exact hle)
      exact bodyPost_ret (v := .tuple #[.int .u64 (x : Int), .bool true]) (by simp [results, go_sem]) rfl ⟨by rw [hyes.1, hyes.2, hxv.out], rfl⟩


theorem neg_back (x : Nat) (h : x ≤ 9223372036854775808) : wrap64 (IntKind.u64.wrap (-(x : Int))) = -(x : Int) := by
  unfold wrap64
  simp [IntKind.wrap, IntKind.bits, IntKind.signed]
  omega
set_option maxRecDepth 100000 in
set_option maxHeartbeats 4000000 in
theorem num_Get (s : ByteArray) (w : World) (hs : s.size ≤ 1073741824) : Calls Try.prog 31 #[.string s] w (RetGet s.data.toList w) := by
  have cC := Lib.hid (cut_minus s w)
  obtain ⟨d, hd⟩ : ∃ d : ByteArray, d = ⟨(digL s.data.toList).toArray⟩ := ⟨_, rfl⟩
  have hdl : d.data.toList = digL s.data.toList := by rw [hd]
  rw [← hd] at cC
  clear hd
  have hds : d.size ≤ 1073741824 := by
    rw [← size_list, hdl]
    refine Nat.le_trans ?_ hs
    rw [← size_list]
    unfold digL
    split
    · rw [List.length_tail]; omega
    · exact Nat.le_refl _
  obtain ⟨below, hneg⟩ : ∃ b, negL s.data.toList = b := ⟨_, rfl⟩
  rw [hneg] at cC
  have cW := Lib.hid (num_written d below w hds)
  have hok : okL s.data.toList = wroteL d.data.toList below := by unfold okL wroteL; rw [hdl, hneg]
  cases hw : wroteL d.data.toList below with
  | false =>
    rw [hw] at hok cW
    have hbad := Lib.hid (get_bad hok)
    clear hok hw hdl hneg
    go_enter Try.func31, Try.ntmps31
    go_wp2_with fail
    refine cC.out.mono ?_; rintro e w' ⟨rfl, rfl⟩
    go_wp2_with fail
    refine cW.out.mono ?_; rintro e w' ⟨rfl, rfl⟩
    go_wp2_with fail
    exact bodyPost_ret (v := .tuple #[.int .i64 0, .int .i64 2]) (by simp [results, go_sem]) rfl ⟨by rw [hbad.out.1, hbad.out.2], Below.refl _ _⟩
  | true =>
    rw [hw] at hok cW
    have hall : Hid (d.data.toList.all isD = true) := Lib.hid (by
      unfold wroteL at hw
      simp only [Bool.and_eq_true] at hw
      exact hw.1.2)
    cases below with
    | true =>
      have cS := Lib.hid (num_sum d 9223372036854775808 w hds hall (by omega) (by omega))
      have hvz : valZ s.data.toList = -(valN d.data.toList : Int) := by rw [valZ_neg hneg, hdl]
      by_cases hle : valN d.data.toList ≤ 9223372036854775808
      · rw [(sum_yes hle).1, (sum_yes hle).2] at cS
        have hgood := Lib.hid (get_good hok (by rw [hvz]; exact fits64_yes (by omega) (by omega)))
        rw [hvz] at hgood
        obtain ⟨x, hx⟩ : ∃ x, x = valN d.data.toList := ⟨_, rfl⟩
        rw [← hx] at hgood cS hle
        replace hx := Lib.hid hx
        clear hvz hw hok hdl hneg hall
        by_cases hx0 : x = 0
        · subst hx0
          go_enter Try.func31, Try.ntmps31
          go_wp2_with fail
          refine cC.out.mono ?_; rintro e w' ⟨rfl, rfl⟩
          go_wp2_with fail
          refine cW.out.mono ?_; rintro e w' ⟨rfl, rfl⟩
          go_wp2_with fail
          refine cS.out.mono ?_; rintro e w' ⟨rfl, rfl⟩
          go_wp2_with fail
          exact bodyPost_ret (v := .tuple #[.int .i64 0, .int .i64 0]) (by simp [results, go_sem]) rfl ⟨by rw [hgood.out.1, hgood.out.2]; rfl, Below.refl _ _⟩
        · have hx1 : (0 : Int) < (x : Int) := by omega
          clear hx0
          go_enter Try.func31, Try.ntmps31
          go_wp2_with fail
          refine cC.out.mono ?_; rintro e w' ⟨rfl, rfl⟩
          go_wp2_with fail
          refine cW.out.mono ?_; rintro e w' ⟨rfl, rfl⟩
          go_wp2_with fail
          refine cS.out.mono ?_; rintro e w' ⟨rfl, rfl⟩
          go_wp2_with fail
          exact bodyPost_ret (v := .tuple #[.int .i64 (wrap64 (IntKind.u64.wrap (-(x : Int)))), .int .i64 0]) (by simp [results, go_sem]) rfl ⟨by rw [hgood.out.1, hgood.out.2, neg_back x hle], Below.refl _ _⟩
      · rw [(sum_no hle).1, (sum_no hle).2] at cS
        have hbad := Lib.hid (get_large hok (by rw [hvz]; exact fits64_no (Or.inl (by omega))))
        clear hvz hw hok hdl hneg hall hle
        go_enter Try.func31, Try.ntmps31
        go_wp2_with fail
        refine cC.out.mono ?_; rintro e w' ⟨rfl, rfl⟩
        go_wp2_with fail
        refine cW.out.mono ?_; rintro e w' ⟨rfl, rfl⟩
        go_wp2_with fail
        refine cS.out.mono ?_; rintro e w' ⟨rfl, rfl⟩
        go_wp2_with fail
        exact bodyPost_ret (v := .tuple #[.int .i64 0, .int .i64 3]) (by simp [results, go_sem]) rfl ⟨by rw [hbad.out.1, hbad.out.2], Below.refl _ _⟩
    | false =>
      have cS := Lib.hid (num_sum d 9223372036854775807 w hds hall (by omega) (by omega))
      have hvz : valZ s.data.toList = (valN d.data.toList : Int) := by rw [valZ_pos hneg, hdl]
      by_cases hle : valN d.data.toList ≤ 9223372036854775807
      · rw [(sum_yes hle).1, (sum_yes hle).2] at cS
        have hgood := Lib.hid (get_good hok (by rw [hvz]; exact fits64_yes (by omega) (by omega)))
        rw [hvz] at hgood
        obtain ⟨x, hx⟩ : ∃ x, x = valN d.data.toList := ⟨_, rfl⟩
        rw [← hx] at hgood cS hle
        replace hx := Lib.hid hx
        clear hvz hw hok hdl hneg hall
        go_enter Try.func31, Try.ntmps31
        go_wp2_with fail
        refine cC.out.mono ?_; rintro e w' ⟨rfl, rfl⟩
        go_wp2_with fail
        refine cW.out.mono ?_; rintro e w' ⟨rfl, rfl⟩
        go_wp2_with fail
        refine cS.out.mono ?_; rintro e w' ⟨rfl, rfl⟩
        go_wp2_with fail
        exact bodyPost_ret (v := .tuple #[.int .i64 (x : Int), .int .i64 0]) (by simp [results, go_sem]) rfl ⟨by rw [hgood.out.1, hgood.out.2], Below.refl _ _⟩
      · rw [(sum_no hle).1, (sum_no hle).2] at cS
        have hbad := Lib.hid (get_large hok (by rw [hvz]; exact fits64_no (Or.inr (by omega))))
        clear hvz hw hok hdl hneg hall hle
        go_enter Try.func31, Try.ntmps31
        go_wp2_with fail
        refine cC.out.mono ?_; rintro e w' ⟨rfl, rfl⟩
        go_wp2_with fail
        refine cW.out.mono ?_; rintro e w' ⟨rfl, rfl⟩
        go_wp2_with fail
        refine cS.out.mono ?_; rintro e w' ⟨rfl, rfl⟩
        go_wp2_with fail
        exact bodyPost_ret (v := .tuple #[.int .i64 0, .int .i64 3]) (by simp [results, go_sem]) rfl ⟨by rw [hbad.out.1, hbad.out.2], Below.refl _ _⟩
set_option maxRecDepth 100000 in
set_option maxHeartbeats 2000000 in
theorem num_Span (s : ByteArray) (i : Int) (w : World) (hs : s.size ≤ 1073741824) (i0 : -9223372036854775808 ≤ i) (i1 : i < 9223372036854775808) :
    Calls Try.prog 30 #[.string s, .int .i64 i] w (RetI (spanZ s i : Nat) w) := by
  by_cases h0 : i < 0
  · have hz : Hid (spanZ s i = 0) := Lib.hid (by unfold spanZ; rw [if_neg (by omega)])
    go_enter Try.func30, Try.ntmps30
    go_wp2_with fail
    go_ret
    rw [hz.out]; exact ⟨rfl, Below.refl _ _⟩
  by_cases h1 : (s.size : Int) ≤ i
  · have hz : Hid (spanZ s i = 0) := Lib.hid (by unfold spanZ; rw [if_pos (by omega), List.drop_eq_nil_of_le (by rw [size_list]; omega)]; rfl)
    go_enter Try.func30, Try.ntmps30
    go_wp2_with fail
    go_ret
    rw [hz.out]; exact ⟨rfl, Below.refl _ _⟩
  obtain ⟨k, hk⟩ : ∃ k : Nat, i = k := ⟨i.toNat, by omega⟩
  have hkt : i.toNat = k := by omega
  obtain ⟨x, hx⟩ : ∃ x : ByteArray, s.extract i.toNat s.size = x := ⟨_, rfl⟩
  have hxl : x.data.toList = s.data.toList.drop k := by
    rw [← hx, hkt, ByteArray.data_extract, Array.toList_extract, List.extract]
    exact List.take_of_length_le (by rw [List.length_drop, size_list]; exact Nat.le_refl _)
  have hxs : x.size = s.size - k := by rw [← size_list, hxl, List.length_drop, size_list]
  have cC := Lib.hid (cut_minus x w)
  obtain ⟨d, hd⟩ : ∃ d : ByteArray, d = ⟨(digL x.data.toList).toArray⟩ := ⟨_, rfl⟩
  have hdl : d.data.toList = digL x.data.toList := by rw [hd]
  rw [← hd] at cC
  clear hd
  have hdn := digsN_le d.data.toList
  rw [size_list] at hdn
  have hsp : spanZ s i = x.size - d.size + digsN d.data.toList ∧ d.size ≤ x.size := by
    unfold spanZ
    rw [if_pos (by omega), hkt, ← hxl, ← size_list x, ← size_list d, hdl]
    unfold spanN digL negL
    cases x.data.toList with
    | nil => exact ⟨rfl, Nat.le_refl _⟩
    | cons c r =>
      by_cases h45 : c.toNat = 45
      · simp [h45]
      · simp [h45]
  obtain ⟨hsp, hdx⟩ := hsp
  have cR := Lib.hid (num_run d w (by omega))
  obtain ⟨g, hg⟩ : ∃ g, g = digsN d.data.toList := ⟨_, rfl⟩
  rw [← hg] at cR hsp hdn
  rw [hsp]
  have h : 0 ≤ i ∧ i ≤ (s.size : Int) := by omega
  have hlt : i < (s.size : Int) := by omega
  have hfin : Hid ((s.size : Int) - i - (d.size : Int) + (g : Int) = ((x.size - d.size + g : Nat) : Int)) := Lib.hid (by omega)
  have q1 : (0 : Int) ≤ (s.size : Int) - i := by omega
  have q2 : (0 : Int) ≤ (s.size : Int) - i - (d.size : Int) := by omega
  have q3 : (s.size : Int) - i - (d.size : Int) + (g : Int) ≤ 1073741824 := by omega
  replace hsp := Lib.hid hsp
  replace hg := Lib.hid hg
  replace hxl := Lib.hid hxl
  replace hdl := Lib.hid hdl
  replace hk := Lib.hid hk
  replace hdx := Lib.hid hdx
  replace hdn := Lib.hid hdn
  clear h0 h1 hxs hkt
  go_enter Try.func30, Try.ntmps30
  go_wp2_with fail
  refine cC.out.mono ?_; rintro e w' ⟨rfl, rfl⟩
  go_wp2_with fail
  refine cR.out.mono ?_; rintro e w' ⟨rfl, rfl⟩
  go_wp2_with fail
  exact bodyPost_ret (v := .int .i64 ((s.size : Int) - i - (d.size : Int) + (g : Int))) (by simp [results, go_sem]) rfl ⟨by rw [hfin.out], Below.refl _ _⟩

end Go.Proofs.Ytpincmdogaaciaa
