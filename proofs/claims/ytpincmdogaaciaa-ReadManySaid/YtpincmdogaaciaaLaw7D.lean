/- Layer 7's law ReadMany. -/
import Derived.Test.YtpincmdogaaciaaLaw7C
import Derived.Test.YtpincmdogaaciaaReadMathF
namespace Go.Proofs.Ytpincmdogaaciaa
open Go.RowKit
set_option linter.unusedVariables false

set_option maxRecDepth 100000 in
set_option maxHeartbeats 1000000 in
theorem law7_ReadMany (n : Int) (lines : Bool) (w : World) (n0 : 0 ≤ n) (n1 : n < 256) : Calls Try.prog 6 #[.int .u8 n, .bool lines] w fun e w' => e = .returned (.bool true) ∧ Below w.heap.size w w' := by
  obtain ⟨r, hr⟩ : ∃ r : Nat, n % 12 = (r : Int) := ⟨(n % 12).toNat, by omega⟩
  have hr11 : r ≤ 11 := by omega
  have hj : 0 ≤ 6 * (4090 + (r : Int)) - 1 ∧ 6 * (4090 + (r : Int)) - 1 ≤ 27648 := by omega
  cases lines with
  | true =>
    go_enter Try.func6, Try.ntmps6
    go_wp2_with fail
    go_loop [7, 8] (fun v t => ∃ (i : Nat) (x : ByteArray), v = .string x ∧ t = .int .i64 i ∧ i ≤ 512 ∧ Hid (x.data.toList = repU 10 i)) (fun _ t => 512 - (intOf t).toNat)
    case atStart => exact ⟨0, _, rfl, rfl, by omega, Lib.hid rfl⟩
    case round =>
      obtain ⟨i, x, rfl, rfl, hi, hx⟩ := hrel
      have hxs : x.size = 6 * i := by rw [← size_list, hx.out, repU_len]
      by_cases hlt : i < 512
      · have hlt' : (i : Int) < 512 := by omega
        have e1 : ¬ 9223372036854775807 < x.size + 5 := by omega
        have e2 : ¬ 9223372036854775807 < x.size + 5 + 1 := by omega
        replace hxs := Lib.hid hxs
        go_wp2_with fail
        exact ⟨⟨i + 1, _, rfl, by go_num, by omega, Lib.hid (by rw [append_list, append_list, hx.out, List.append_assoc]; rfl)⟩, by simp [intOf]; omega⟩
      · have hi5 : i = 512 := by omega
        subst hi5
        replace hxs : x.size = 3072 := hxs
        clear hi hlt
        obtain ⟨y, hy⟩ : ∃ y, y = (x ++ x ++ x ++ x ++ x ++ x ++ x ++ x ++ x).extract 0 (6 * (4090 + r) - 1) ++ ⟨#[10]⟩ := ⟨_, rfl⟩
        have hyl : y.data.toList = (repU 10 (4089 + r + (518 - r + 1))).take (6 * (4089 + r + 1) - 1) ++ [10] := by
          rw [hy, append_list, ByteArray.data_extract, Array.toList_extract, List.extract, List.drop_zero, Nat.sub_zero]
          simp only [append_list]
          rw [hx.out, show 4089 + r + (518 - r + 1) = 512 + 512 + 512 + 512 + 512 + 512 + 512 + 512 + 512 by omega, show 6 * (4089 + r + 1) - 1 = 6 * (4090 + r) - 1 by omega]
          simp only [repU_add]
        obtain ⟨hs, hsl, htx⟩ := textL_many 10 (by decide) (4089 + r) (518 - r)
        rw [← hyl] at htx
        have hys : y.size ≤ 1073741824 := by
          rw [← size_list, hyl, List.length_append]
          have := List.length_take_le (6 * (4089 + r + 1) - 1) (repU 10 (4089 + r + (518 - r + 1)))
          show _ + 1 ≤ _
          omega
        have cT := Lib.hid (read_Text y w hys)
        replace hyl := Lib.hid hyl
        go_wp2_with fail
        rw [← hy]
        replace hy := Lib.hid hy
        by_cases hk : 4089 + r + 1 ≤ 4096
        · rw [if_pos hk] at htx
          rw [htx] at cT
          replace htx := Lib.hid htx
          have hk' : ¬ (4096 : Int) < 4090 + (r : Int) := by omega
          refine cT.out.mono ?_; rintro z w1 ⟨A, q, f, rfl, hH, hqf, hf, b⟩
          replace b := Lib.hid b
          replace hH := Lib.hid (show HistAt w1 A q hs from hH)
          clear cT
          go_wp2_with fail
          refine (law7_awake w1).mono ?_; rintro z w2 ⟨rfl, b2⟩
          replace b := Lib.hid (below_trans2 b.out b2)
          have cC := Lib.hid (ref6_Count A q f hs w2 (hH.out.below b2) (by omega) (by omega))
          rw [hsl] at cC
          have hcnt := Lib.hid (show ((4089 : Int) + (r : Int) + 1 == 4090 + (r : Int)) = true by rw [beq_iff_eq]; omega)
          clear b2
          go_wp2_with fail
          refine cC.out.mono ?_; rintro z w3 ⟨rfl, b3⟩
          replace b := Lib.hid (below_trans2 b.out b3)
          clear b3
          go_wp2_with fail
          go_ret
          have hcnt1 := hcnt.out
          exact ⟨by rw [hcnt1]; rfl, b.out⟩
        · rw [if_neg hk] at htx
          rw [htx] at cT
          replace htx := Lib.hid htx
          have hk' : (4096 : Int) < 4090 + (r : Int) := by omega
          have cT' : Hid (Calls Try.prog 8 #[.string y] w fun x w' => ∃ A c, x = .returned (.tuple #[.slice A 0 c, .int .i64 24576, .int .i64 3]) ∧ Below w.heap.size w w') := Lib.hid (cT.out.mono fun x w' h => by
            obtain ⟨A, n, c, hx, hH, _, _, b⟩ := h
            have hn := hH.len
            have hn' : n = 0 := hn.symm
            subst hn'
            exact ⟨A, c, hx, b⟩)
          clear cT
          refine cT'.out.mono ?_; rintro z w1 ⟨A, f, rfl, b⟩
          replace b := Lib.hid b
          go_wp2_with fail
          refine (law7_awake w1).mono ?_; rintro z w2 ⟨rfl, b2⟩
          replace b := Lib.hid (below_trans2 b.out b2)
          clear b2
          go_wp2_with fail
          go_ret
          exact ⟨rfl, b.out⟩
  | false =>
    go_enter Try.func6, Try.ntmps6
    go_wp2_with fail
    go_loop [7, 8] (fun v t => ∃ (i : Nat) (x : ByteArray), v = .string x ∧ t = .int .i64 i ∧ i ≤ 512 ∧ Hid (x.data.toList = repU 32 i)) (fun _ t => 512 - (intOf t).toNat)
    case atStart => exact ⟨0, _, rfl, rfl, by omega, Lib.hid rfl⟩
    case round =>
      obtain ⟨i, x, rfl, rfl, hi, hx⟩ := hrel
      have hxs : x.size = 6 * i := by rw [← size_list, hx.out, repU_len]
      by_cases hlt : i < 512
      · have hlt' : (i : Int) < 512 := by omega
        have e1 : ¬ 9223372036854775807 < x.size + 5 := by omega
        have e2 : ¬ 9223372036854775807 < x.size + 5 + 1 := by omega
        replace hxs := Lib.hid hxs
        go_wp2_with fail
        exact ⟨⟨i + 1, _, rfl, by go_num, by omega, Lib.hid (by rw [append_list, append_list, hx.out, List.append_assoc]; rfl)⟩, by simp [intOf]; omega⟩
      · have hi5 : i = 512 := by omega
        subst hi5
        replace hxs : x.size = 3072 := hxs
        clear hi hlt
        obtain ⟨y, hy⟩ : ∃ y, y = (x ++ x ++ x ++ x ++ x ++ x ++ x ++ x ++ x).extract 0 (6 * (4090 + r) - 1) ++ ⟨#[10]⟩ := ⟨_, rfl⟩
        have hyl : y.data.toList = (repU 32 (4089 + r + (518 - r + 1))).take (6 * (4089 + r + 1) - 1) ++ [10] := by
          rw [hy, append_list, ByteArray.data_extract, Array.toList_extract, List.extract, List.drop_zero, Nat.sub_zero]
          simp only [append_list]
          rw [hx.out, show 4089 + r + (518 - r + 1) = 512 + 512 + 512 + 512 + 512 + 512 + 512 + 512 + 512 by omega, show 6 * (4089 + r + 1) - 1 = 6 * (4090 + r) - 1 by omega]
          simp only [repU_add]
        obtain ⟨hs, hsl, htx⟩ := textL_many 32 (by decide) (4089 + r) (518 - r)
        rw [← hyl] at htx
        have hys : y.size ≤ 1073741824 := by
          rw [← size_list, hyl, List.length_append]
          have := List.length_take_le (6 * (4089 + r + 1) - 1) (repU 32 (4089 + r + (518 - r + 1)))
          show _ + 1 ≤ _
          omega
        have cT := Lib.hid (read_Text y w hys)
        replace hyl := Lib.hid hyl
        go_wp2_with fail
        rw [← hy]
        replace hy := Lib.hid hy
        by_cases hk : 4089 + r + 1 ≤ 4096
        · rw [if_pos hk] at htx
          rw [htx] at cT
          replace htx := Lib.hid htx
          have hk' : ¬ (4096 : Int) < 4090 + (r : Int) := by omega
          refine cT.out.mono ?_; rintro z w1 ⟨A, q, f, rfl, hH, hqf, hf, b⟩
          replace b := Lib.hid b
          replace hH := Lib.hid (show HistAt w1 A q hs from hH)
          clear cT
          go_wp2_with fail
          refine (law7_awake w1).mono ?_; rintro z w2 ⟨rfl, b2⟩
          replace b := Lib.hid (below_trans2 b.out b2)
          have cC := Lib.hid (ref6_Count A q f hs w2 (hH.out.below b2) (by omega) (by omega))
          rw [hsl] at cC
          have hcnt := Lib.hid (show ((4089 : Int) + (r : Int) + 1 == 4090 + (r : Int)) = true by rw [beq_iff_eq]; omega)
          clear b2
          go_wp2_with fail
          refine cC.out.mono ?_; rintro z w3 ⟨rfl, b3⟩
          replace b := Lib.hid (below_trans2 b.out b3)
          clear b3
          go_wp2_with fail
          go_ret
          have hcnt1 := hcnt.out
          exact ⟨by rw [hcnt1]; rfl, b.out⟩
        · rw [if_neg hk] at htx
          rw [htx] at cT
          replace htx := Lib.hid htx
          have hk' : (4096 : Int) < 4090 + (r : Int) := by omega
          have cT' : Hid (Calls Try.prog 8 #[.string y] w fun x w' => ∃ A c, x = .returned (.tuple #[.slice A 0 c, .int .i64 24576, .int .i64 3]) ∧ Below w.heap.size w w') := Lib.hid (cT.out.mono fun x w' h => by
            obtain ⟨A, n, c, hx, hH, _, _, b⟩ := h
            have hn := hH.len
            have hn' : n = 0 := hn.symm
            subst hn'
            exact ⟨A, c, hx, b⟩)
          clear cT
          refine cT'.out.mono ?_; rintro z w1 ⟨A, f, rfl, b⟩
          replace b := Lib.hid b
          go_wp2_with fail
          refine (law7_awake w1).mono ?_; rintro z w2 ⟨rfl, b2⟩
          replace b := Lib.hid (below_trans2 b.out b2)
          clear b2
          go_wp2_with fail
          go_ret
          exact ⟨rfl, b.out⟩

end Go.Proofs.Ytpincmdogaaciaa
